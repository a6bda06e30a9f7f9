/- Part of a proof. -/
import Derived.Test.YtojmeodoenkapaaGreatDoorChainPushesPd
import Derived.WalkMore
open Go.Proofs.Tryz
namespace Go.Proofs.YtojmeodoenkapaaGreatDoor
set_option maxRecDepth 20000
set_option maxHeartbeats 8000000
set_option linter.unusedVariables false
set_option linter.unusedSimpArgs false
open Go.RowKit
theorem x3K(h:Hd)(w:World)(hh:okHd h)(ht:Tables w)(k:j2V h=false):
  Rz 32 #[hdV h] w (idv (idH h)):=by
 unfold Rz
 have hp:j9L h=([],false):=by unfold j9L;rw[if_neg (by rw[k];exact Bool.noConfusion)]
 have hi:idH h=z32:=by unfold idH;rw[if_neg (by rw[k];exact Bool.noConfusion)]
 rw[hi]
 have HZ:Hid ((j0d 32 z32).size=32):=j0c _ _ (by decide)
 clear k hi
 have HL:=hD hh.len
 have HLE:Hid (w.heap.size≤w.heap.size+1):=by show _≤_;omega
 have E1:Hid (EnvX w ((w.alloc (.cells (hdA h) 34)).alloc (.cells (j0d 32 []) 26)) [(w.heap.size+1,oc (j0d 32 []) 26),(w.heap.size,oc (hdA h) 34)]):=(EnvX.start w).two _ _
 have HPT:Hid (∀u,Calls Tryz.prog 67 #[hdV h] u fun e w'=>(∃v,e= .returned (.tuple #[v, .bool (j9L h).2])∧OwnB w' u.heap.size v (j9L h).1)∧Below u.heap.size u w'):=fun u=>q3e h u hh
 rw[hp]at HPT
 clear hp hh
 unfold hdV
 go_enter func32,ntmps32
 go_upto_region 1 with (fail)
 rw[j1n]
 generalize (w.alloc (.cells (hdA h) 34)).alloc (.cells (j0d 32 []) 26)=W at *
 have HLD:Hid ((loadVar 34 ⟨w.heap.size,0,none⟩).run Tryz.prog W= .ok (.agg (hdA h)) W):=j7j E1.out (mT mH) HL.out
 go_wp2_with ((with_reducible refine j1W (o:=⟨some 6,_,_,_,_,_⟩) ?_ 34 (.tmp 1) ?_ ⟨w.heap.size,0,none⟩ ?_ HLD.out ?_);(rfl);(rfl);(rfl))
 refine(HPT.out W).mono ?_
 rintro e w1 ⟨⟨v,rfl,hv⟩,hb⟩
 have E2:Hid (EnvX w w1 [(w.heap.size+1,oc (j0d 32 []) 26),(w.heap.size,oc (hdA h) 34)]):=EnvX.below E1.out hb
 clear hv hb E1 HLD ht
 go_upto_region 3 with (fail)
 refine rgQ [0] [1] E2 rfl fun hw=>?_
 refine qv (v:= .agg (j0d 32 z32)) rfl (fun u hu=>j0p u q8n) hw ?_
 refine j0b<|(so rfl HLE.out mH (j08 _ HZ.out) ((j0c _ _ (by simp)).trans HZ.out.symm) (j0Q _ _) ?_)
 refine fun _=>enL fun u4 EX3=>?_
 have Q0:=hD (EnvX.box EX3.out _ _ mH)
 have HBEL:=hD EX3.out.bel
 clear EX3
 go_wp2_with ((with_reducible refine bodyPost_ret (v:= .agg (j0d 32 z32)) ?_ ?_ ?_);(exact results_cell_row (p:=2) (ty:=26) results32 _ _ (w.heap.size+1) 26 (j0d 32 z32) (0,0) _ rfl Q0.out underlying26 rfl (j08 _ HZ.out));(rfl))
 exact⟨rfl,HBEL.out⟩
theorem x2n(h:Hd)(w:World)(hh:okHd h)(ht:Tables w)(k:j2V h=true):
   Rz 32 #[hdV h] w (idv (idH h)):=by
 unfold Rz
 have hp:j9L h=(j4o h,true):=by unfold j9L;rw[if_pos k]
 have hi:idH h=j4x (5::j4o h):=by unfold idH;rw[if_pos k]
 rw[hi]
 obtain⟨su,hsu⟩: ∃su,j4x (5::j4o h)=su:=⟨_,rfl⟩
 have HZ:Hid ((j0d 32 su).size=32):=j0c _ _ (by rw[←hsu,j1V];omega)
 have HSU:=hD hsu
 rw[hsu]
 clear hsu
 have HBO:=hD (And.intro (j9i hh) (q0P hh))
 clear k hi
 have HL:=hD hh.len
 have HLE:Hid (w.heap.size≤w.heap.size+1):=by show _≤_;omega
 have E1:Hid (EnvX w ((w.alloc (.cells (hdA h) 34)).alloc (.cells (j0d 32 []) 26)) [(w.heap.size+1,oc (j0d 32 []) 26),(w.heap.size,oc (hdA h) 34)]):=(EnvX.start w).two _ _
 have HPT:Hid (∀u,Calls Tryz.prog 67 #[hdV h] u fun e w'=>(∃v,e= .returned (.tuple #[v, .bool (j9L h).2])∧OwnB w' u.heap.size v (j9L h).1)∧Below u.heap.size u w'):=fun u=>q3e h u hh
 rw[hp]at HPT
 clear hp hh
 unfold hdV
 go_enter func32,ntmps32
 go_upto_region 1 with (fail)
 rw[j1n]
 generalize (w.alloc (.cells (hdA h) 34)).alloc (.cells (j0d 32 []) 26)=W at *
 have HLD:Hid ((loadVar 34 ⟨w.heap.size,0,none⟩).run Tryz.prog W= .ok (.agg (hdA h)) W):=j7j E1.out (mT mH) HL.out
 go_wp2_with ((with_reducible refine j1W (o:=⟨some 6,_,_,_,_,_⟩) ?_ 34 (.tmp 1) ?_ ⟨w.heap.size,0,none⟩ ?_ HLD.out ?_);(rfl);(rfl);(rfl))
 refine(HPT.out W).mono ?_
 rintro e w1 ⟨⟨v,rfl,hv⟩,hb⟩
 obtain⟨hv1,⟨_,h0⟩|⟨gv,capv,curv,rfl,hg1,hg2,hg3⟩⟩:=hv
 · have:=HBO.out.1
   omega
 have E2:Hid (EnvX w w1 [(gv,oc curv 5),(w.heap.size+1,oc (j0d 32 []) 26),(w.heap.size,oc (hdA h) 34)]):=⟨(EnvX.below E1.out hb).bel,fun g o hm=>by
   rcases List.mem_cons.1 hm with e|e
   · cases e
     exact hg2
   · exact(EnvX.below E1.out hb).box g o e⟩
 rw[HBO.out.1]at hg3 ⊢
 have HGV:=hD hg3
 have HOF:Hid (∀(u:World)(gr:Nat),EnvX w u []→Parts u u.heap.size (some ⟨gr,0,none⟩) [[5],j4o h]→Calls Tryz.prog 65 #[.slice (some ⟨gr,0,none⟩) 2 2] u fun e w'=>e= .returned (.agg (j0d 32 su))∧Below u.heap.size u w'):=fun u gr hE hp=>by
   have e:[[5],j4o h].flatten=5::j4o h:=by simp
   have h1:=j4a (some ⟨gr,0,none⟩) 2 2 [[5],j4o h] u rfl hp (by omega) (by rw[e,List.length_cons,HBO.out.1];decide) (ht.below hE.bel)
   rwa[e,HSU.out]at h1
 clear hv1 hb E1 HLD hg1 hg2 hg3 ht
 go_upto_region 4 with (fail)
 refine j07 (w0:=w) [0,1,2,3,4] [(gv,oc curv 5),(w.heap.size+1,oc (j0d 32 []) 26),(w.heap.size,oc (hdA h) 34)] rfl E2.out ?_
 refine(j0k (R:=fun v N=> ∃g,v= .slice (some ⟨g,0,none⟩) 1 1∧N=[(g,oc #[.int .u8 5] 5)]) (M0:=[(gv,oc curv 5),(w.heap.size+1,oc (j0d 32 []) 26),(w.heap.size,oc (hdA h) 34)]) rfl rfl (fun _ h=>h) (fun u hu=>j39 5 u) ?_)
 rintro _ _ ⟨g5,rfl,rfl⟩ hf he1;intro K' hK';go_big_quiet_op;go_big_quiet_on
 clear hf
 refine phE [1] [2,3,4] he1 fun hw=>?_
 refine qo rfl hw ?_
 refine j0b<|(j0k (R:=fun v N=> ∃g,v= .slice (some ⟨g,0,none⟩) 2 2∧N=[(g,oc #[.slice (some ⟨g5,0,none⟩) 1 1, .slice (some ⟨gv,0,none⟩) 176 capv] 100)]) (M0:=[(g5,oc #[.int .u8 5] 5),(gv,oc curv 5),(w.heap.size+1,oc (j0d 32 []) 26),(w.heap.size,oc (hdA h) 34)]) rfl rfl (fun _ h=>h) (fun u hu=>q0Q rfl rfl u) ?_)
 rintro _ _ ⟨gr,rfl,rfl⟩ hf he3;intro K' hK';go_big_quiet_op;go_big_quiet_on
 clear hf
 refine phE [3] [4] he3 fun hw=>?_
 refine qc rfl func65 (fun u hu=>HOF.out u gr (nl hu) (j7n (EnvX.lt hu mH) (by have h:=j0n (k:=0) hu mH rfl;exact h) (j06 (cap:=1) hu (mT mH) rfl ⟨by decide,by decide,rfl,rfl⟩) (by intro x hx;cases mS.1 hx;omega) (by have h:=j0n (k:=1) hu mH rfl;rw[HBO.out.1];exact h) (j06 hu (mT (mT mH)) HBO.out.1 HGV.out) HBO.out.2)) hw ?_
 refine j0b<|(so rfl HLE.out (mT (mT (mT mH))) (j08 _ HZ.out) ((j0c _ _ (by simp)).trans HZ.out.symm) (j0Q _ _) ?_)
 refine fun _=>enL fun u7 EX6=>?_
 have Q0:=hD (EnvX.box EX6.out _ _ mH)
 have HBEL:=hD EX6.out.bel
 clear EX6
 go_wp2_with ((with_reducible refine bodyPost_ret (v:= .agg (j0d 32 su)) ?_ ?_ ?_);(exact results_cell_row (p:=2) (ty:=26) results32 _ _ (w.heap.size+1) 26 (j0d 32 su) (0,0) _ rfl Q0.out underlying26 rfl (j08 _ HZ.out));(rfl))
 exact⟨rfl,HBEL.out⟩
theorem j5p(h:Hd)(w:World)(hh:okHd h)(ht:Tables w):
  Rz 32 #[hdV h] w (idv (idH h)):=by
 unfold Rz
 cases k:j2V h with
 |true=>exact x2n h w hh ht k
 |false=>exact x3K h w hh ht k
theorem q9J(h:Hd)(w:World)(hh:okHd h)(ht:Tables w)(hc:isC h.bits=false):
  Rz 35 #[hdV h] w (.int .i64 (j1g h)):=by
 unfold Rz
 have hv:j1g h= -1:=by unfold j1g;rw[hc,Bool.and_false];rfl
 rw[hv]
 clear hv
 have HL:=hD hh.len
 have E1:Hid (EnvX w (w.alloc (.cells (hdA h) 34)) [(w.heap.size,oc (hdA h) 34)]):=(EnvX.start w).new _
 have HTG:Hid (∀u,Calls Tryz.prog 72 #[.int .u32 (h.bits:Int)] u fun e w'=>e= .returned (.tuple #[.agg (wcs (tv h.bits)), .bool (isC h.bits)])∧Below u.heap.size u w'):=fun u=>j2E h.bits u hh.2.2.2.2.2.2.1
 rw[hc]at HTG
 clear hh hc ht
 unfold hdV
 go_enter func35,ntmps35
 go_upto_region 1 with (fail)
 generalize w.alloc (.cells (hdA h) 34)=W at *
 refine rgQ [0,1,2,3,4,5] [6,7,8] E1 rfl fun hw=>?_
 refine qo rfl hw ?_
 refine ql rfl mH HL.out hw ?_
 refine qc rfl func72 (fun u hu=>HTG.out u) hw ?_
 refine qw 3 hw ?_
 refine j0b<|qn rfl (j65 _) fun gt HGT he2=>?_
 change j1E _ _ _ _ _ _ [(gt,oc (wcs 0) 32),(w.heap.size,oc (hdA h) 34)]
 refine(sh rfl HGT (j0w _) ((j0s _).trans (j0s _).symm) (j1v _) ?_)
 intro he3
 refine phE [8] [] he3 fun hw=>?_
 refine qo rfl hw ?_
 refine enP fun u6 EX5=>?_
 go_upto_region 2 with (fail)
 refine rgQ [0,1,2,3,4,5,6,7,8] [] EX5 rfl fun hw=>?_
 refine qw 9 hw ?_
 refine enP fun u9 EX8=>?_
 have HBE:=hD (EnvX.bel EX8.out)
 go_wp2
 go_ret
 exact⟨rfl,HBE.out⟩
theorem x0h(h:Hd)(w:World)(hh:okHd h)(ht:Tables w)(hc:isC h.bits=true)(k:j2V h=false):
  Rz 35 #[hdV h] w (.int .i64 (j1g h)):=by
 unfold Rz
 have hv:j1g h= -1:=by unfold j1g;rw[k];rfl
 rw[hv]
 clear hv
 have HL:=hD hh.len
 have E1:Hid (EnvX w (w.alloc (.cells (hdA h) 34)) [(w.heap.size,oc (hdA h) 34)]):=(EnvX.start w).new _
 have HTG:Hid (∀u,Calls Tryz.prog 72 #[.int .u32 (h.bits:Int)] u fun e w'=>e= .returned (.tuple #[.agg (wcs (tv h.bits)), .bool (isC h.bits)])∧Below u.heap.size u w'):=fun u=>j2E h.bits u hh.2.2.2.2.2.2.1
 rw[hc]at HTG
 have HMH:Hid (∀u,Calls Tryz.prog 73 #[.int .i64 h.height] u fun e w'=>e= .returned (.bool (j2V h))∧Below u.heap.size u w'):=fun u=>j5F h.height u
 rw[k]at HMH
 clear hh hc k ht
 unfold hdV
 go_enter func35,ntmps35
 go_upto_region 1 with (fail)
 generalize w.alloc (.cells (hdA h) 34)=W at *
 refine rgQ [0,1,2,3,4,5] [6,7,8] E1 rfl fun hw=>?_
 refine qo rfl hw ?_
 refine ql rfl mH HL.out hw ?_
 refine qc rfl func72 (fun u hu=>HTG.out u) hw ?_
 refine qw 3 hw ?_
 refine j0b<|qn rfl (j65 _) fun gt HGT he2=>?_
 change j1E _ _ _ _ _ _ [(gt,oc (wcs 0) 32),(w.heap.size,oc (hdA h) 34)]
 refine(sh rfl HGT (j0w _) ((j0s _).trans (j0s _).symm) (j1v _) ?_)
 intro he3
 refine phE [8] [] he3 fun hw=>?_
 refine qo rfl hw ?_
 refine enP fun u6 EX5=>?_
 go_upto_region 2 with (fail)
 refine rgQ [0,1,2,3,4,5,6,7,8] [] EX5 rfl fun hw=>?_
 refine qw 4 hw ?_
 refine ql rfl (mT mH) trivial hw ?_
 refine qc rfl func73 (fun u hu=>HMH.out u) hw ?_
 refine qw 3 hw ?_
 refine enP fun u9 EX8=>?_
 have HBE:=hD (EnvX.bel EX8.out)
 go_wp2
 go_ret
 exact⟨rfl,HBE.out⟩
theorem q9q(h:Hd)(w:World)(hh:okHd h)(ht:Tables w)(hc:isC h.bits=true)(k:j2V h=true)(h0:h.height=0):
  Rz 35 #[hdV h] w (.int .i64 (j1g h)):=by
 unfold Rz
 have hv:j1g h=31:=by unfold j1g;rw[k,hc];exact if_pos h0
 rw[hv]
 have C0:Hid (decide (h.height=0)=true):=decide_eq_true h0
 clear hv h0
 have HL:=hD hh.len
 have E1:Hid (EnvX w (w.alloc (.cells (hdA h) 34)) [(w.heap.size,oc (hdA h) 34)]):=(EnvX.start w).new _
 have HTG:Hid (∀u,Calls Tryz.prog 72 #[.int .u32 (h.bits:Int)] u fun e w'=>e= .returned (.tuple #[.agg (wcs (tv h.bits)), .bool (isC h.bits)])∧Below u.heap.size u w'):=fun u=>j2E h.bits u hh.2.2.2.2.2.2.1
 rw[hc]at HTG
 have HMH:Hid (∀u,Calls Tryz.prog 73 #[.int .i64 h.height] u fun e w'=>e= .returned (.bool (j2V h))∧Below u.heap.size u w'):=fun u=>j5F h.height u
 rw[k]at HMH
 clear hh hc k ht
 unfold hdV
 go_enter func35,ntmps35
 go_upto_region 1 with (fail)
 generalize w.alloc (.cells (hdA h) 34)=W at *
 refine rgQ [0,1,2,3,4,5] [6,7,8] E1 rfl fun hw=>?_
 refine qo rfl hw ?_
 refine ql rfl mH HL.out hw ?_
 refine qc rfl func72 (fun u hu=>HTG.out u) hw ?_
 refine qw 3 hw ?_
 refine j0b<|qn rfl (j65 _) fun gt HGT he2=>?_
 change j1E _ _ _ _ _ _ [(gt,oc (wcs 0) 32),(w.heap.size,oc (hdA h) 34)]
 refine(sh rfl HGT (j0w _) ((j0s _).trans (j0s _).symm) (j1v _) ?_)
 intro he3
 refine phE [8] [] he3 fun hw=>?_
 refine qo rfl hw ?_
 refine enP fun u6 EX5=>?_
 go_upto_region 2 with (fail)
 refine rgQ [0,1,2,3,4,5,6,7,8] [] EX5 rfl fun hw=>?_
 refine qw 4 hw ?_
 refine ql rfl (mT mH) trivial hw ?_
 refine qc rfl func73 (fun u hu=>HMH.out u) hw ?_
 refine qw 3 hw ?_
 refine enP fun u9 EX8=>?_
 go_upto_region 4 with (fail)
 refine rgQ [0,1,2,3] [] EX8 rfl fun hw=>?_
 refine qo rfl hw ?_
 refine ql rfl (mT mH) trivial hw ?_
 refine qv rfl (fun u hu=>j1C u C0.out rfl rfl) hw ?_
 refine qo rfl hw ?_
 refine enP fun u12 EX11=>?_
 have HBE:=hD (EnvX.bel EX11.out)
 go_wp2
 go_ret
 exact⟨rfl,HBE.out⟩
theorem x0L(h:Hd)(w:World)(hh:okHd h)(ht:Tables w)(hc:isC h.bits=true)(k:j2V h=true)(h0:h.height≠0):
  Rz 35 #[hdV h] w (.int .i64 (j1g h)):=by
 unfold Rz
 have hv:j1g h=lvI (x4u (idH h)) (tv h.bits):=by unfold j1g;rw[k,hc];exact if_neg h0
 rw[hv]
 have C0:Hid (decide (h.height=0)=false):=decide_eq_false h0
 clear hv h0
 have HL:=hD hh.len
 have E1:Hid (EnvX w (w.alloc (.cells (hdA h) 34)) [(w.heap.size,oc (hdA h) 34)]):=(EnvX.start w).new _
 have HTG:Hid (∀u,Calls Tryz.prog 72 #[.int .u32 (h.bits:Int)] u fun e w'=>e= .returned (.tuple #[.agg (wcs (tv h.bits)), .bool (isC h.bits)])∧Below u.heap.size u w'):=fun u=>j2E h.bits u hh.2.2.2.2.2.2.1
 rw[hc]at HTG
 have HMH:Hid (∀u,Calls Tryz.prog 73 #[.int .i64 h.height] u fun e w'=>e= .returned (.bool (j2V h))∧Below u.heap.size u w'):=fun u=>j5F h.height u
 rw[k]at HMH
 have HID:Hid (Rt w 32 #[hdV h] (idv (idH h))):=fun u hE=>j5p h u hh (ht.below hE.bel)
 have HLV:Hid (∀u,Calls Tryz.prog 74 #[idv (idH h), .agg (wcs (tv h.bits))] u fun e w'=>e= .returned (.int .i64 (lvI (x4u (idH h)) (tv h.bits)))∧Below u.heap.size u w'):=fun u=>by
  unfold idv
  rw[x2B (x4c h) (q7f h)]
  exact q7s (fun i=>((idH h).getD i 0).toNat) (q5z (q7f h)) (tv h.bits) u (q7y h.bits)
 clear hh hc k ht
 unfold hdV
 go_enter func35,ntmps35
 go_upto_region 1 with (fail)
 generalize w.alloc (.cells (hdA h) 34)=W at *
 refine rgQ [0,1,2,3,4,5] [6,7,8] E1 rfl fun hw=>?_
 refine qo rfl hw ?_
 refine ql rfl mH HL.out hw ?_
 refine qc rfl func72 (fun u hu=>HTG.out u) hw ?_
 refine qw 3 hw ?_
 refine j0b<|qn rfl (j65 _) fun gt HGT he2=>?_
 change j1E _ _ _ _ _ _ [(gt,oc (wcs 0) 32),(w.heap.size,oc (hdA h) 34)]
 refine(sh rfl HGT (j0w _) ((j0s _).trans (j0s _).symm) (j1v _) ?_)
 intro he3
 refine phE [8] [] he3 fun hw=>?_
 refine qo rfl hw ?_
 refine enP fun u6 EX5=>?_
 go_upto_region 2 with (fail)
 refine rgQ [0,1,2,3,4,5,6,7,8] [] EX5 rfl fun hw=>?_
 refine qw 4 hw ?_
 refine ql rfl (mT mH) trivial hw ?_
 refine qc rfl func73 (fun u hu=>HMH.out u) hw ?_
 refine qw 3 hw ?_
 refine enP fun u9 EX8=>?_
 go_upto_region 4 with (fail)
 refine rgQ [0,1,2,3] [] EX8 rfl fun hw=>?_
 refine qo rfl hw ?_
 refine ql rfl (mT mH) trivial hw ?_
 refine qv rfl (fun u hu=>j1C u C0.out rfl rfl) hw ?_
 refine qo rfl hw ?_
 refine enP fun u12 EX11=>?_
 go_upto_region 6 with (fail)
 refine rgK [0,1,2,3,4] 0 EX11 rfl fun hw=>?_
 refine ql rfl (mT mH) HL.out hw ?_
 refine qc rfl func32 (fun u hu=>HID.out u (nl hu)) hw ?_
 refine qv rfl (fun u hu=>j0a u (j61 hu mH) rfl) hw ?_
 refine qc rfl func74 (fun u hu=>HLV.out u) hw ?_
 refine qo rfl hw ?_
 refine eH fun u15 EX14=>?_
 have HBE:=hD (EnvX.bel EX14.out)
 go_wp2
 go_ret
 exact⟨rfl,HBE.out⟩
theorem j6m(h:Hd)(w:World)(hh:okHd h)(ht:Tables w):
  Rz 35 #[hdV h] w (.int .i64 (j1g h)):=by
 unfold Rz
 cases hc:isC h.bits with
 |false=>exact q9J h w hh ht hc
 | true=>
  cases k:j2V h with
  |false=>exact x0h h w hh ht hc k
  |true=>
   by_cases h0:h.height=0
   · exact q9q h w hh ht hc k h0
   · exact x0L h w hh ht hc k h0
theorem q3n(h:Hd)(w:World)(hh:okHd h)(ht:Tables w):
  Rz 155 #[hdV h] w (.bool (j4U h)):=by
 unfold Rz
 have HL:=hD hh.len
 have E1:Hid (EnvX w (w.alloc (.cells (hdA h) 34)) [(w.heap.size,oc (hdA h) 34)]):=(EnvX.start w).new _
 have HLV:Hid (Rt w 35 #[hdV h] (.int .i64 (j1g h))):=fun u hE=>j6m h u hh (ht.below hE.bel)
 have HM:Hid (decide (0≤j1g h)=j4U h):=rfl
 clear hh ht
 unfold hdV
 go_enter func155,ntmps155
 go_upto_region 1 with (fail)
 generalize w.alloc (.cells (hdA h) 34)=W at *
 refine rgQ [0,1,2,3] [] E1 rfl fun hw=>?_
 refine ql rfl mH HL.out hw ?_
 refine qc rfl func35 (fun u hu=>HLV.out u (nl hu)) hw ?_
 refine qv rfl (fun u hu=>x4l u HM.out rfl rfl) hw ?_
 refine qo rfl hw ?_
 refine enP fun u3 EX2=>?_
 have HBE:=hD (EnvX.bel EX2.out)
 go_wp2
 go_ret
 exact⟨rfl,HBE.out⟩
theorem x01(h:Hd)(w:World)(hh:okHd h)(hc:isC h.bits=false):
  Rz 106 #[hdV h] w (.agg (wcs (j5c h))):=by
 unfold Rz
 have hw:j5c h=0:=by unfold j5c;rw[hc];rfl
 rw[hw]
 have HL:=hD hh.len
 have HLE:Hid (w.heap.size≤w.heap.size+1):=by show _≤_;omega
 have E1:Hid (EnvX w ((w.alloc (.cells (hdA h) 34)).alloc (.cells (wcs 0) 32)) [(w.heap.size+1,oc (wcs 0) 32),(w.heap.size,oc (hdA h) 34)]):=(EnvX.start w).two _ _
 have HTG:Hid (∀u,Calls Tryz.prog 72 #[.int .u32 (h.bits:Int)] u fun e w'=>e= .returned (.tuple #[.agg (wcs (tv h.bits)), .bool (isC h.bits)])∧Below u.heap.size u w'):=fun u=>j2E h.bits u hh.2.2.2.2.2.2.1
 rw[hc]at HTG
 have HWK:Hid (∀u,Calls Tryz.prog 161 #[.agg (wcs (tv h.bits))] u fun e w'=>e= .returned (.agg (wcs (wkV (tv h.bits))))∧Below u.heap.size u w'):=fun u=>q26 (tv h.bits) u (q7y h.bits)
 clear hh hc hw
 unfold hdV
 go_enter func106,ntmps106
 go_upto_region 1 with (fail)
 rw[j87]
 generalize (w.alloc (.cells (hdA h) 34)).alloc (.cells (wcs 0) 32)=W at *
 refine rgQ [0,1,2,3,4,5] [6,7,8] E1 rfl fun hw=>?_
 refine qo rfl hw ?_
 refine ql rfl (mT mH) HL.out hw ?_
 refine qc rfl func72 (fun u hu=>HTG.out u) hw ?_
 refine qw 3 hw ?_
 refine j0b<|qn rfl (j65 _) fun gt HGT he2=>?_
 change j1E _ _ _ _ _ _ [(gt,oc (wcs 0) 32),(w.heap.size+1,oc (wcs 0) 32),(w.heap.size,oc (hdA h) 34)]
 refine(sh rfl HGT (j0w _) ((j0s _).trans (j0s _).symm) (j1v _) ?_)
 intro he3
 refine phE [8] [] he3 fun hw=>?_
 refine qo rfl hw ?_
 refine enP fun u6 EX5=>?_
 go_upto_region 2 with (fail)
 refine rgQ [0,1] [] EX5 rfl fun hw=>?_
 refine qw 2 hw ?_
 refine enP fun u9 EX8=>?_
 go_upto_region 3 with (fail)
 refine rgQ [0] [1] EX8 rfl fun hw=>?_
 refine qv (v:= .agg (wcs 0)) rfl (fun u hu=>j0p u q56) hw ?_
 refine j0b<|(so rfl HLE.out (mT mH) (j0w _) ((j0s _).trans (j0s _).symm) (j1v _) ?_)
 refine fun _=>enL fun u13 EX12=>?_
 have Q0:=hD (EnvX.box EX12.out _ _ mH)
 have HBEL:=hD EX12.out.bel
 clear EX12
 go_wp2_with ((with_reducible refine bodyPost_ret (v:= .agg (wcs 0)) ?_ ?_ ?_);(exact results_cell_row (p:=2) (ty:=32) results106 _ _ (w.heap.size+1) 32 (wcs 0) (0,0) _ rfl Q0.out underlying32 rfl (j0w _));(rfl))
 first|exact HBEL.out|exact⟨rfl,HBEL.out⟩
theorem q58(h:Hd)(w:World)(hh:okHd h)(hc:isC h.bits=true):
  Rz 106 #[hdV h] w (.agg (wcs (j5c h))):=by
 unfold Rz
 have hw:j5c h=wkV (tv h.bits):=by unfold j5c;rw[hc];rfl
 rw[hw]
 have HL:=hD hh.len
 have HLE:Hid (w.heap.size≤w.heap.size+1):=by show _≤_;omega
 have E1:Hid (EnvX w ((w.alloc (.cells (hdA h) 34)).alloc (.cells (wcs 0) 32)) [(w.heap.size+1,oc (wcs 0) 32),(w.heap.size,oc (hdA h) 34)]):=(EnvX.start w).two _ _
 have HTG:Hid (∀u,Calls Tryz.prog 72 #[.int .u32 (h.bits:Int)] u fun e w'=>e= .returned (.tuple #[.agg (wcs (tv h.bits)), .bool (isC h.bits)])∧Below u.heap.size u w'):=fun u=>j2E h.bits u hh.2.2.2.2.2.2.1
 rw[hc]at HTG
 have HWK:Hid (∀u,Calls Tryz.prog 161 #[.agg (wcs (tv h.bits))] u fun e w'=>e= .returned (.agg (wcs (wkV (tv h.bits))))∧Below u.heap.size u w'):=fun u=>q26 (tv h.bits) u (q7y h.bits)
 clear hh hc hw
 unfold hdV
 go_enter func106,ntmps106
 go_upto_region 1 with (fail)
 rw[j87]
 generalize (w.alloc (.cells (hdA h) 34)).alloc (.cells (wcs 0) 32)=W at *
 refine rgQ [0,1,2,3,4,5] [6,7,8] E1 rfl fun hw=>?_
 refine qo rfl hw ?_
 refine ql rfl (mT mH) HL.out hw ?_
 refine qc rfl func72 (fun u hu=>HTG.out u) hw ?_
 refine qw 3 hw ?_
 refine j0b<|qn rfl (j65 _) fun gt HGT he2=>?_
 change j1E _ _ _ _ _ _ [(gt,oc (wcs 0) 32),(w.heap.size+1,oc (wcs 0) 32),(w.heap.size,oc (hdA h) 34)]
 refine(sh rfl HGT (j0w _) ((j0s _).trans (j0s _).symm) (j1v _) ?_)
 intro he3
 refine phE [8] [] he3 fun hw=>?_
 refine qo rfl hw ?_
 refine enP fun u6 EX5=>?_
 go_upto_region 2 with (fail)
 refine rgQ [0,1] [] EX5 rfl fun hw=>?_
 refine qw 2 hw ?_
 refine enP fun u9 EX8=>?_
 go_upto_region 4 with (fail)
 refine rgQ [0,1] [2] EX8 rfl fun hw=>?_
 refine qv rfl (fun u hu=>j0a u (j61 hu mH) rfl) hw ?_
 refine qc rfl func161 (fun u hu=>HWK.out u) hw ?_
 refine j0b<|(so rfl HLE.out (mT mH) (j0w _) ((j0s _).trans (j0s _).symm) (j1v _) ?_)
 refine fun _=>enL fun u13 EX12=>?_
 have Q0:=hD (EnvX.box EX12.out _ _ mH)
 have HBEL:=hD EX12.out.bel
 clear EX12
 go_wp2_with ((with_reducible refine bodyPost_ret (v:= .agg (wcs (wkV (tv h.bits)))) ?_ ?_ ?_);(exact results_cell_row (p:=2) (ty:=32) results106 _ _ (w.heap.size+1) 32 (wcs (wkV (tv h.bits))) (0,0) _ rfl Q0.out underlying32 rfl (j0w _));(rfl))
 first|exact HBEL.out|exact⟨rfl,HBEL.out⟩
theorem q1i(h:Hd)(w:World)(hh:okHd h):
  Rz 106 #[hdV h] w (.agg (wcs (j5c h))):=by
 unfold Rz
 cases hc:isC h.bits with
 |false=>exact x01 h w hh hc
 |true=>exact q58 h w hh hc
theorem exC_rows:midRowR j6I∧midRowR j4m:=by
 have h1:j4J tipE.b:=⟨Nat.zero_le _,Nat.zero_le _,fun x h=>by cases h⟩
 have hm:=j9w j5z
 have h2:j4J blkE:=by
  refine⟨?_,by rw[hm.2.2.2.1];exact Nat.zero_le _,by rw[hm.2.2.2.1];exact fun x h=>by cases h⟩
  have:=j6e tipE
  rw[hm.2.2.1]
  omega
 refine⟨⟨by show 1≤100000;omega,fun b hb=>?_⟩,⟨by show 2≤100000;omega,fun b hb=>?_⟩⟩
 · rw[mS.1 hb];exact h1
 · rcases List.mem_cons.1 hb with h|hb
   · rw[h];exact h1
   · rw[mS.1 hb];exact h2
theorem q5c:j10 j4m=[31,j1g blkE.h]:=by
 show [j1g tipE.b.h,j1g blkE.h]=_
 rw[show j1g tipE.b.h=31 from j7s j89]
theorem q7r{a:Act}{dst:Option Tmp}{x y:Operand}{ty:TypeId}{pos:String}{after:Array Edge}{gd:Option (Nat × Bool)}{t e:TypeId}{z:Nat}(hu:Tryz.prog.underlying t=some (.slice e))(hz:(Tryz.prog.info? e).map (·.size)=some z){g n c i:Nat}(hi:i<n)(u:World)
  (hx:a.eval x= .slice (some ⟨g,0,none⟩) n c) (hy:a.eval y= .int .i64 (i:Int)):
  (execOp a.eval ⟨dst, .indexAddr t x y,ty,pos,after,gd⟩).run Tryz.prog u= .ok (.value (.pointer (some ⟨g,i*z,none⟩))) u:=by
 have h:=j0h hu hz hi u hx hy (dst:=dst) (ty:=ty) (pos:=pos) (after:=after) (gd:=gd)
 rwa[Addr.add_mid,Nat.zero_add]at h
theorem q71:(Tryz.prog.info? 3).map (·.size)=some 1:=by kernel_rfl
theorem q2z(H:ChainC)(w:World)(ht:Tables w):
  Rz 10 #[] w (.bool true):=by
 unfold Rz
 have HT:=hD ht
 have HH:=hD H
 have E1:Hid (EnvX w w []):=EnvX.start w
 clear ht H
 go_enter func10,ntmps10
 go_upto_region 1 with (fail)
 refine j07 (w0:=w) [0,1,2,3,4,5] [] rfl E1.out ?_
 refine(j0X (gd:=none) (R:=fun xv M'=> ∃tq Nq,xv= .tuple #[.slice tq.A tq.n tq.c, .bool true]∧M'=Nq∧j66 w Nq (IsRow (j6I) tq)∧ ∃vq,IsRow (j6I) tq vq) rfl rfl rfl rfl (fun u hu=>j0D (fid:=17) (xs:= #[.const (.int .u32 545259519)]) (args:= #[.int .u32 545259519]) rfl func17 rfl rfl u (q6t (by have h:=HH.out.new 545259519 u (by decide) (HT.out.below (EnvX.bel hu));rw[x2x]at h;exact h) hu)) ?_)
 rintro _ N1 ⟨m1,_,rfl,rfl,hk1,hv1⟩ he1;intro K' hK';go_big_quiet_op;go_big_quiet_on
 have HT1:=hD hk1
 have HV1:=hD hv1
 clear hk1 hv1
 refine phE [1,2,3,4,5] [] he1 fun hw=>?_
 refine qw 5 hw ?_
 refine enP fun u4 EX3=>?_
 have HR1:Hid (m1.r=j6I):=by obtain⟨v,hv⟩:=HV1.out;exact hv.1
 go_upto_region 2 with (fail)
 refine rgQ [0] [1,2,3,4,5,6] EX3 rfl fun hw=>?_
 refine qo rfl hw ?_
 refine j0b<|(j0X (gd:=none) (R:=fun xv M'=> ∃tq Nq,xv= .tuple #[.slice tq.A tq.n tq.c, .int .i64 ((0:Nat):Int)]∧M'=Nq++N1∧j66 w Nq (IsRow (j4m) tq)∧ ∃vq,IsRow (j4m) tq vq) rfl rfl rfl rfl (fun u hu=>j0D (fid:=15) (xs:= #[.tmp 13, .const (.slice none 0 0), .const (.int .u64 0)]) (args:= #[.slice m1.A m1.n m1.c, .slice none 0 0, .int .u64 0]) rfl func15 rfl rfl u (q2U (by have h:=HH.out.grow m1 [] none 0 0 0 u (HT1.out u _ hu (fun y MEM=>MEM)).2 (by rw[HR1.out];exact exC_rows.1) rfl (Nat.le_refl _) (Nat.zero_le _) ⟨fun h=>absurd h (by decide),fun t h=>by cases h⟩ ⟨by decide,fun t h=>by cases h⟩ (by decide) (HT.out.below (EnvX.bel hu));rw[HR1.out,show rsT []=[]from rfl,q9t]at h;exact h) hu)) ?_)
 rintro _ _ ⟨m2,N2,rfl,rfl,hk2,hv2⟩ he6;intro K' hK';go_big_quiet_op;go_big_quiet_on
 have HT2:=hD hk2
 have HV2:=hD hv2
 clear hk2 hv2
 refine phE [2,3,4,5,6] [] he6 fun hw=>?_
 refine qw 5 hw ?_
 refine enP fun u9 EX8=>?_
 have HR2:Hid (m2.r=j4m):=by obtain⟨v,hv⟩:=HV2.out;exact hv.1
 have HL2:Hid (m2.l.length=2):=by show _=_;rw[←m2.r_len,HR2.out];rfl
 have HN2:Hid (m2.n=2):=by obtain⟨v,hv⟩:=HV2.out;show _=_;rw[←hv.2.l,HL2.out]
 go_upto_region 3 with (fail)
 refine rgQ [0] [1,2,3,4,5,6,7] EX8 rfl fun hw=>?_
 refine qo rfl hw ?_
 refine j0b<|(j0X (gd:=none) (R:=fun x M'=> ∃tq N,x= .tuple #[.agg (j0j tq), .int .i64 ((0:Nat):Int)]∧M'=N++(N2++N1)∧j66 w N (IsTip (q9Q) tq)∧ ∃vq,IsTip (q9Q) tq vq) rfl rfl rfl rfl (fun u hu=>j0D (fid:=13) (xs:= #[.tmp 18]) (args:= #[.slice m2.A m2.n m2.c]) rfl func13 rfl rfl u (j62 (by have h:=HH.out.check m2 u (HT2.out u _ hu (fun y MEM=>(mL MEM))).2 (by rw[HR2.out];exact exC_rows.2) (HT.out.below (EnvX.bel hu));rw[HR2.out,q5t]at h;exact h) hu)) ?_)
 rintro _ _ ⟨t5,N5,rfl,rfl,hk5,hv5⟩ he11;intro K' hK';go_big_quiet_op;go_big_quiet_on
 have HT5:=hD hk5
 have HV5:=hD hv5
 have HK5:Hid (j0M t5.b.h):=by obtain⟨v,hv⟩:=HV5.out;exact hv.2.b.h.len
 clear hk5 hv5
 refine phE [2,3,4] [5,6,7] he11 fun hw=>?_
 refine qw 3 hw ?_
 refine j0b<|qn rfl (j2d _) fun g5 HGg5 he13=>?_
 change j1E _ _ _ _ _ _ ((g5,oc (j0j noTipM) 41)::(N5++(N2++N1)))
 refine(sh rfl HGg5 (j0K _ (j0m HK5.out)) (j0V HK5.out) (j0R _) ?_)
 intro he14
 refine phE [7] [] he14 fun hw=>?_
 refine qo rfl hw ?_
 refine enP fun u17 EX16=>?_
 obtain⟨lv,hlv⟩: ∃lv,j1g blkE.h=lv:=⟨_,rfl⟩
 have HLV:=hD hlv
 have HGE:Hid (decide ((0:Int)≤lv)=true):=decide_eq_true (by rw[←hlv];exact q5K)
 clear hlv
 go_upto_region 4 with (fail)
 refine rgQ [0] [1,2] EX16 rfl fun hw=>?_
 refine qo rfl hw ?_
 refine j0b<|qr (R:=FreshR 3 1 2 ([j78 31,j78 lv])) rfl func22 (fun u hu=>j0i (by have h:=HH.out.levels m2 u (HT2.out u _ hu (fun y MEM=>(mT (mR (mL MEM))))).2 (by rw[HL2.out];omega) (HT.out.below (EnvX.bel hu));rw[HR2.out,q5c,HLV.out]at h;rw[show (2:Nat)=m2.n from HN2.out.symm];exact h)) ?_
 rintro x4 N4 hF hf he19
 obtain⟨gv,cv,cur,rfl,hN4,-,-,-,hcur⟩|⟨_,_,h0,_⟩:=hF
 case inr=>cases h0
 have HNE:=hD hN4
 have HCU:=hD hcur
 clear hN4 hcur
 clear hf
 refine phE [2] [] he19 fun hw=>?_
 refine qo rfl hw ?_
 refine enP fun u22 EX21=>?_
 have E4:Hid (EnvX w u22 ((gv,oc cur 3)::((g5,oc (j0j t5) 41)::(N5++(N2++N1))))):=by have h:=EX21.out;rw[HNE.out]at h;exact h
 have HC0:Hid (cur[0*1]?=some (.int .i64 31)∧cur[1*1]?=some (.int .i64 lv)):=by
  have h:=HCU.out
  have g: ∀j,j<2→cur[j]?=[j78 31,j78 lv][j]?:=fun j hj=>by
   rw[←h,List.getElem?_take_of_lt (by omega),Array.getElem?_toList]
  exact⟨g 0 (by omega),g 1 (by omega)⟩
 clear EX21 HNE HCU
 have HB5:Hid (t5.b.r=blkE):=by obtain⟨v,hv⟩:=HV5.out;exact congrArg TipR.b hv.1
 have HGT:Hid (t5.b.h.height=1):=by show _=_;rw[show t5.b.h=blkE.h from congrArg BlkR.h HB5.out];exact q34
 obtain⟨ad,hA,hld⟩:=q8v HT2.out HV2.out (k:=1) (by rw[HL2.out];omega)
 have hh:(m2.l.getD 1 noBlkM).h=blkE.h:=by rw[RowM.at_h (by rw[HL2.out];omega),HR2.out];rfl
 have HAD:=hD hA
 have HLD:Hid (∀u M,EnvX w u M→(∀y∈N2,y∈M)→(loadVar 34 (((ad.add (1*137))).add 0)).run Tryz.prog u= .ok (hdV blkE.h) u):=fun u M hu hM=>by rw[←hh];exact(hld u M hu hM).hd
 have HOB:Hid (okHd blkE.h):=by obtain⟨v,hv⟩:=HV2.out;rw[←hh];exact(hv.2.m.get (by rw[HL2.out];omega)).h
 clear hA hld hh
 have HID:Hid (j3C (idH blkE.h)):=j4D _
 have HZ:Hid ((!eqL (idH blkE.h) z32)=true):=(Bool.and_eq_true _ _ ▸ q8e).1
 have HI1:Hid (1<m2.n):=by show _<_;rw[HN2.out];omega
 have HM63:Hid (m2.n<9223372036854775808):=by show _<_;rw[HN2.out];omega
 go_upto_region 5 with (fail)
 refine rgQ [0,1,2,3,4,5,6,7,8,9,10,11,12,13,14,15,16,17,18,19,20,21,22,23,24,25,26,27,28,29,30,31,32,33,34,35,36,37,38,39,40,41,42,43,44,45,46,47,48,49,50,51,52,53,54,55,56,57,58,59,60,61,62,63] [64,65,66,67,68] E4 rfl fun hw=>?_
 refine qw 3 hw ?_
 refine qv rfl (fun u hu=>j4Z u (decide_eq_true rfl) rfl rfl) hw ?_
 refine qw 3 hw ?_
 refine qv rfl (fun u hu=>j4Z u (decide_eq_true rfl) rfl rfl) hw ?_
 refine qw 3 hw ?_
 refine qv rfl (fun u hu=>j0l underlying22 HM63.out u rfl) hw ?_
 refine qv (v:= .bool true) rfl (fun u hu=>j1C u (decide_eq_true (by rw[HN2.out];rfl)) rfl rfl) hw ?_
 refine qw 5 hw ?_
 refine qv (v:= .int .i64 1) rfl (fun u hu=>j0a u (by have h:=(j0B HK5.out (j8K hu (mT mH) HK5.out)).2.1;rwa[HGT.out]at h) rfl) hw ?_
 refine qv rfl (fun u hu=>j1C u (decide_eq_true rfl) rfl rfl) hw ?_
 refine qw 3 hw ?_
 refine qv (v:= .int .i64 ((2:Nat):Int)) rfl (fun u hu=>j0l underlying52 (by decide) u rfl) hw ?_
 refine qv rfl (fun u hu=>j1C u (decide_eq_true rfl) rfl rfl) hw ?_
 refine qw 3 hw ?_
 refine qv (v:= .pointer (some ⟨gv,0*1,none⟩)) rfl (fun u hu=>q7r (i:=0) underlying52 q71 (by decide) u rfl rfl) hw ?_
 refine qv (v:= .int .i64 31) rfl (fun u hu=>j0a u (j0f j1S u (j0n (k:=0*1) hu mH HC0.out.1)) rfl) hw ?_
 refine qv rfl (fun u hu=>j1C u (decide_eq_true rfl) rfl rfl) hw ?_
 refine qw 3 hw ?_
 refine qv (v:= .pointer (some ⟨gv,1*1,none⟩)) rfl (fun u hu=>q7r (i:=1) underlying52 q71 (by decide) u rfl rfl) hw ?_
 refine qv (v:= .int .i64 lv) rfl (fun u hu=>j0a u (j0f j1S u (j0n (k:=1*1) hu mH HC0.out.2)) rfl) hw ?_
 refine qv rfl (fun u hu=>q6y u HGE.out rfl rfl) hw ?_
 refine qw 4 hw ?_
 refine qv (v:= .pointer (some (ad.add (1*137)))) rfl (fun u hu=>by rw[HAD.out];exact j0h (i:=1) underlying22 aggBlk.size HI1.out u rfl rfl) hw ?_
 refine qv (v:= .pointer (some ((ad.add (1*137)).add 0))) rfl (fun u hu=>j1P (k:=0) (off:=0) (ad:=(ad.add (1*137))) rfl u rfl) hw ?_
 refine qv rfl (fun u hu=>j0a u (HLD.out u _ hu (fun y MEM=>(mT (mT (mR (mL MEM)))))) rfl) hw ?_
 refine qc (args:= #[hdV blkE.h]) (v:=idv (idH blkE.h)) rfl func32 (fun u hu=>j5p blkE.h u HOB.out (HT.out.below (EnvX.bel hu))) hw ?_
 refine qc (args:= #[.slice m2.A m2.n m2.c,idv (idH blkE.h)]) (v:= .int .i64 1) rfl func28 (fun u hu=>by have h:=HH.out.find m2 (idH blkE.h) u (HT2.out u _ hu (fun y MEM=>(mT (mT (mR (mL MEM)))))).2 (by rw[HL2.out];omega) HID.out (HT.out.below (EnvX.bel hu));rw[HR2.out,q84]at h;exact h) hw ?_
 refine qv rfl (fun u hu=>j1C u (decide_eq_true rfl) rfl rfl) hw ?_
 refine qw 4 hw ?_
 refine qc (args:= #[.slice m2.A m2.n m2.c, .slice m2.A m2.n m2.c]) (v:= .bool true) rfl func24 (fun u hu=>by have h:=HH.out.same m2 m2 u (HT2.out u _ hu (fun y MEM=>(mT (mT (mR (mL MEM)))))).2 (by rw[HR2.out];exact exC_rows.2) (HT2.out u _ hu (fun y MEM=>(mT (mT (mR (mL MEM)))))).2 (by rw[HR2.out];exact exC_rows.2) (HT.out.below (EnvX.bel hu));rw[decide_eq_true rfl]at h;exact h) hw ?_
 refine qw 3 hw ?_
 refine qv (v:= .pointer (some (ad.add (1*137)))) rfl (fun u hu=>by rw[HAD.out];exact j0h (i:=1) underlying22 aggBlk.size HI1.out u rfl rfl) hw ?_
 refine qv (v:= .pointer (some ((ad.add (1*137)).add 0))) rfl (fun u hu=>j1P (k:=0) (off:=0) (ad:=(ad.add (1*137))) rfl u rfl) hw ?_
 refine qv rfl (fun u hu=>j0a u (HLD.out u _ hu (fun y MEM=>(mT (mT (mR (mL MEM)))))) rfl) hw ?_
 refine qc (args:= #[hdV blkE.h]) (v:=idv (idH blkE.h)) rfl func32 (fun u hu=>j5p blkE.h u HOB.out (HT.out.below (EnvX.bel hu))) hw ?_
 refine qv (v:=idv z32) rfl (fun u hu=>j0p u (by kernel_rfl)) hw ?_
 refine qv rfl (fun u hu=>x2P HID.out.1 rfl HZ.out u rfl rfl) hw ?_
 refine qw 3 hw ?_
 refine j0b<|(q5d (R:=FreshR 61 37 2 (((j1h m2.r).map j11).flatten)) (M0:=((gv,oc cur 3)::((g5,oc (j0j t5) 41)::(N5++(N2++N1))))) rfl rfl rfl (fun _ h=>h) (fun u hu=>j6X (fid:=26) (xs:= #[.tmp 87]) (args:= #[.slice m2.A m2.n m2.c]) rfl func26 rfl rfl u (j0i (by have h:=HH.out.leaves m2 u (HT2.out u _ hu (fun y MEM=>(mT (mT (mR (mL MEM)))))).2 (by rw[HL2.out];omega) (HT.out.below (EnvX.bel hu));rw[show (2:Nat)=m2.n from HN2.out.symm];exact h))) ?_)
 rintro x9 N9 hF hf he44;intro K' hK';go_big_quiet_op;go_big_quiet_on
 obtain⟨A9,c9,rfl,-,-⟩:=FreshR.formR hF
 clear hF
 clear hf
 refine phE [65,66,67,68] [] he44 fun hw=>?_
 refine qv (v:= .int .i64 ((2:Nat):Int)) rfl (fun u hu=>j0l underlying38 (by decide) u rfl) hw ?_
 refine qv rfl (fun u hu=>j1C u (decide_eq_true rfl) rfl rfl) hw ?_
 refine qw 2 hw ?_
 refine enP fun u47 EX46=>?_
 have HBE:=hD (EnvX.bel EX46.out)
 go_wp2
 go_ret
 exact⟨rfl,HBE.out⟩
def q2o(l:List BlkM):Bool:=l.all fewK&& decide ((l.length:Int)≤50)
theorem q6K{l:List BlkM}{k:Nat}(hk:k<l.length)(h:fewK (l.getD k noBlkM)=false):q2o l=false:=by
 unfold q2o
 rw[show l.all fewK=false from ?_,Bool.false_and]
 rw[List.all_eq_false]
 rw[gD,gE hk]at h
 exact⟨_,List.getElem_mem hk,by rw[show fewK l[k]=false from h];decide⟩
theorem q89{l:List BlkM}(h: ∀k,k<l.length→fewK (l.getD k noBlkM)=true):q2o l=decide ((l.length:Int)≤50):=by
 unfold q2o
 rw[show l.all fewK=true from ?_,Bool.true_and]
 rw[List.all_eq_true]
 intro x hx
 obtain⟨k,hk,rfl⟩:=List.getElem_of_mem hx
 have:=h k hk
 rwa[gD,gE hk]at this
theorem x0o{m:RowM}(h:q2o m.l=true):midRowR m.r∧m.l.length≤50:=by
 unfold q2o at h
 rw[Bool.and_eq_true,List.all_eq_true,decide_eq_true_eq]at h
 have h2:m.l.length≤50:=by omega
 refine⟨⟨by rw[m.r_len];omega,fun b hb=>?_⟩,h2⟩
 obtain⟨x,hx,rfl⟩:=List.mem_map.1 hb
 exact(j2D x).1 (fewK.mid (h.1 x hx)).1
theorem j8u (m:RowM) (w:World) (km:RowOk w m):
  Rz 11 #[j4e m] w (.bool (q2o m.l)):=by
 unfold Rz
 have HKM:=hD km
 have HL:Hid (m.l.length=m.n):=km.l
 have HN63:Hid (m.n<9223372036854775808):=km.n63
 have E1:Hid (EnvX w w []):=EnvX.start w
 clear km
 unfold j4e
 go_enter func11,ntmps11
 go_upto_region 2 with (fail)
 go_loopw [3] (fun iv u=> ∃k:Nat,k≤m.n∧iv= .int .i64 (k:Int)∧Hid ((∀j,j<k→fewK (m.l.getD j noBlkM)=true)∧EnvX w u [])) (fun iv _=>m.n- (intOf iv).toNat)
 case atStart=>exact⟨0,by omega,rfl,(fun j hj=>by omega),E1.out⟩
 case round=>
  obtain⟨k,hk,rfl,hinv⟩:=hrel
  have H1:=hD hinv.out.1
  have EK:=hD hinv.out.2
  clear hinv E1
  by_cases hlt:k<m.n
  · have C2:Hid (decide ((k:Int)<(m.n:Int))=true):=decide_eq_true (by omega)
    have HI:=hD hlt
    have hil:k<m.l.length:=by rw[HL.out];exact hlt
    have HIL:=hD hil
    obtain⟨ad,hA,hld⟩:=HKM.out.loads hil
    have HAD:=hD hA
    have HLD:=hD hld
    have HTX:=hD (HKM.out.m.get hil)
    obtain⟨x,hx⟩: ∃x,m.l.getD k noBlkM=x:=⟨_,rfl⟩
    rw[hx]at HLD HTX
    have HXE:=hD hx
    have HN1:Hid (x.n1<9223372036854775808):=HTX.out.n63.1
    have HFA:Hid (Rt w 12 #[.slice x.A2 x.n2 x.c2, .int .i64 6] (.bool (j3u x.t 6))):=fun u hu=>q4V x.t 6 x.A2 x.n2 x.c2 u HTX.out.l2 HTX.out.n63.2 (HTX.out.m2.up (EnvX.bel hu))
    obtain⟨b1,hb1⟩: ∃b1,j3u x.t 6=b1:=⟨_,rfl⟩
    rw[hb1]at HFA
    obtain⟨b2,hb2⟩: ∃b2,decide ((40:Int)<(x.n1:Int))=b2:=⟨_,rfl⟩
    have D2:=hD hb2
    have HFX:Hid (fewK x=(b1&& !b2)):=by
     show _=_
     unfold fewK
     rw[hb1,←hb2,HTX.out.l1]
     have:decide (x.n1≤40)=!decide ((40:Int)<(x.n1:Int)):=by
      by_cases h:x.n1≤40
      · rw[decide_eq_true h,decide_eq_false (by omega)];rfl
      · rw[decide_eq_false h,decide_eq_true (by omega)];rfl
     rw[this]
    clear hld hil hlt hx hb1 hb2 hA
    go_upto_region 2 with (fail)
    refine rgQ [0,1,2,3] [] EK rfl fun hw=>?_
    refine qw 2 hw ?_
    refine qv rfl (fun u hu=>j0l underlying22 HN63.out u rfl) hw ?_
    refine qv rfl (fun u hu=>j0o u C2.out rfl rfl) hw ?_
    refine enP fun u23 EX22=>?_
    cases b1 with
    |false=>
     have HF:Hid (q2o m.l=false):=q6K HIL.out (by rw[HXE.out];exact HFX.out)
     go_upto_region 4 with (fail)
     refine rgQ [0,1,2,3,4,5,6] [] EX22 rfl fun hw=>?_
     refine qw 2 hw ?_
     refine qv (v:= .pointer (some (ad.add (k*137)))) rfl (fun u hu=>by rw[HAD.out];exact j0h (i:=k) underlying22 aggBlk.size HI.out u rfl rfl) hw ?_
     refine qv (v:= .pointer (some ((ad.add (k*137)).add 136))) rfl (fun u hu=>j1P (k:=2) (off:=136) (ad:=ad.add (k*137)) rfl u rfl) hw ?_
     refine qv rfl (fun u hu=>j0a u (HLD.out u (nl hu)).txs rfl) hw ?_
     refine qc rfl func12 (fun u hu=>HFA.out u (nl hu)) hw ?_
     refine qo rfl hw ?_
     refine enP fun u26 EX25=>?_
     go_upto_region 5 with (fail)
     refine rgQ [0,1,2,3,4,5,6,7,8,9,10] [] EX25 rfl fun hw=>?_
     refine qw 11 hw ?_
     refine enP fun u29 EX28=>?_
     go_upto_region 6 with (fail)
     refine rgQ [0] [] EX28 rfl fun hw=>?_
     refine qo rfl hw ?_
     refine enP fun u32 EX31=>?_
     have HBE:=hD (EnvX.bel EX31.out)
     go_wp2
     go_ret
     exact⟨by rw[HF.out];first|done|rfl,HBE.out⟩
    | true=>
     cases b2 with
     |true=>
      have HF:Hid (q2o m.l=false):=q6K HIL.out (by rw[HXE.out];exact HFX.out)
      go_upto_region 4 with (fail)
      refine rgQ [0,1,2,3,4,5,6] [] EX22 rfl fun hw=>?_
      refine qw 2 hw ?_
      refine qv (v:= .pointer (some (ad.add (k*137)))) rfl (fun u hu=>by rw[HAD.out];exact j0h (i:=k) underlying22 aggBlk.size HI.out u rfl rfl) hw ?_
      refine qv (v:= .pointer (some ((ad.add (k*137)).add 136))) rfl (fun u hu=>j1P (k:=2) (off:=136) (ad:=ad.add (k*137)) rfl u rfl) hw ?_
      refine qv rfl (fun u hu=>j0a u (HLD.out u (nl hu)).txs rfl) hw ?_
      refine qc rfl func12 (fun u hu=>HFA.out u (nl hu)) hw ?_
      refine qo rfl hw ?_
      refine enP fun u26 EX25=>?_
      go_upto_region 5 with (fail)
      refine rgQ [0,1,2,3,4,5,6,7,8,9,10] [] EX25 rfl fun hw=>?_
      refine qw 5 hw ?_
      refine qv (v:= .pointer (some (ad.add (k*137)))) rfl (fun u hu=>by rw[HAD.out];exact j0h (i:=k) underlying22 aggBlk.size HI.out u rfl rfl) hw ?_
      refine qv (v:= .pointer (some ((ad.add (k*137)).add 135))) rfl (fun u hu=>j1P (k:=1) (off:=135) (ad:=ad.add (k*137)) rfl u rfl) hw ?_
      refine qv rfl (fun u hu=>j0a u (HLD.out u (nl hu)).ids rfl) hw ?_
      refine qv rfl (fun u hu=>j0l underlying35 HN1.out u rfl) hw ?_
      refine qv rfl (fun u hu=>j1m u D2.out rfl rfl) hw ?_
      refine qo rfl hw ?_
      refine enP fun u29 EX28=>?_
      go_upto_region 6 with (fail)
      refine rgQ [0] [] EX28 rfl fun hw=>?_
      refine qo rfl hw ?_
      refine enP fun u32 EX31=>?_
      have HBE:=hD (EnvX.bel EX31.out)
      go_wp2
      go_ret
      exact⟨by rw[HF.out];first|done|rfl,HBE.out⟩
     |false=>
      have H3:Hid (∀j,j<k+1→fewK (m.l.getD j noBlkM)=true):=fun j hj=>by
        rcases Nat.lt_or_ge j k with h|h
        · exact H1.out j h
        · rw[show j=k by omega,HXE.out];exact HFX.out
      go_upto_region 4 with (fail)
      refine rgQ [0,1,2,3,4,5,6] [] EX22 rfl fun hw=>?_
      refine qw 2 hw ?_
      refine qv (v:= .pointer (some (ad.add (k*137)))) rfl (fun u hu=>by rw[HAD.out];exact j0h (i:=k) underlying22 aggBlk.size HI.out u rfl rfl) hw ?_
      refine qv (v:= .pointer (some ((ad.add (k*137)).add 136))) rfl (fun u hu=>j1P (k:=2) (off:=136) (ad:=ad.add (k*137)) rfl u rfl) hw ?_
      refine qv rfl (fun u hu=>j0a u (HLD.out u (nl hu)).txs rfl) hw ?_
      refine qc rfl func12 (fun u hu=>HFA.out u (nl hu)) hw ?_
      refine qo rfl hw ?_
      refine enP fun u26 EX25=>?_
      go_upto_region 5 with (fail)
      refine rgQ [0,1,2,3,4,5,6,7,8,9,10] [] EX25 rfl fun hw=>?_
      refine qw 5 hw ?_
      refine qv (v:= .pointer (some (ad.add (k*137)))) rfl (fun u hu=>by rw[HAD.out];exact j0h (i:=k) underlying22 aggBlk.size HI.out u rfl rfl) hw ?_
      refine qv (v:= .pointer (some ((ad.add (k*137)).add 135))) rfl (fun u hu=>j1P (k:=1) (off:=135) (ad:=ad.add (k*137)) rfl u rfl) hw ?_
      refine qv rfl (fun u hu=>j0a u (HLD.out u (nl hu)).ids rfl) hw ?_
      refine qv rfl (fun u hu=>j0l underlying35 HN1.out u rfl) hw ?_
      refine qv rfl (fun u hu=>j1m u D2.out rfl rfl) hw ?_
      refine qo rfl hw ?_
      refine enP fun u29 EX28=>?_
      have hii:=HI.out
      have hn:=HN63.out
      go_wp2
      go_roundw
      case rel=>exact⟨k+1,by omega,by go_num,H3.out,EX28.out⟩
      case measure=>simp[intOf];omega
  · obtain rfl:k=m.n:=by omega
    have C2:Hid (decide ((m.n:Int)<(m.n:Int))=false):=decide_eq_false (by omega)
    obtain⟨b,hb⟩: ∃b,decide ((m.n:Int)≤50)=b:=⟨_,rfl⟩
    have D7:=hD hb
    have HF:Hid (q2o m.l=b):=by show _=_;rw[q89 (fun j hj=>H1.out j (by rw[←HL.out];exact hj)),HL.out];exact hb
    clear hb
    go_upto_region 2 with (fail)
    refine rgQ [0,1,2,3] [] EK rfl fun hw=>?_
    refine qw 2 hw ?_
    refine qv rfl (fun u hu=>j0l underlying22 HN63.out u rfl) hw ?_
    refine qv rfl (fun u hu=>j0o u C2.out rfl rfl) hw ?_
    refine enP fun u303 EX302=>?_
    go_upto_region 7 with (fail)
    refine rgQ [0,1,2,3] [] EX302 rfl fun hw=>?_
    refine qo rfl hw ?_
    refine qv rfl (fun u hu=>j0l underlying22 HN63.out u rfl) hw ?_
    refine qv rfl (fun u hu=>j4A u D7.out rfl rfl) hw ?_
    refine qo rfl hw ?_
    refine enP fun u306 EX305=>?_
    have HBE:=hD (EnvX.bel EX305.out)
    go_wp2
    go_ret
    exact⟨by rw[HF.out];first|done|rfl,HBE.out⟩
theorem q1T(id:List Int)(w:World)(hid:j3C id)(ht:Tables w):
  Rz 71 #[idv id] w (idv (j4q id)):=by
 unfold Rz
 have HSR:Hid (((j0d 32 id).toList.drop 0).take (id.map u8v).length=id.map u8v):=x33 hid.1
 have HLF:Hid (∀u,Below w.heap.size w u→Bytes u u.heap.size (some ⟨w.heap.size,0,none⟩) id→Calls Tryz.prog 117 #[.slice (some ⟨w.heap.size,0,none⟩) 32 32] u fun e w'=>e= .returned (idv (j4q id))∧Below u.heap.size u w'):=fun u hu hb=>q95 _ 32 32 id u hid.1 (by omega) hb hid.2 (ht.below hu)
 have E1:Hid (EnvX w ((w.alloc (.cells (j0d 32 id) 26)).alloc (.cells (j0d 32 []) 26)) [(w.heap.size+1,oc (j0d 32 []) 26),(w.heap.size,oc (j0d 32 id) 26)]):=(EnvX.start w).two _ _
 have hlf:(j4q id).length=32:=j1V _
 generalize j4q id=lf at *
 have HZ:Hid ((j0d 32 lf).size=32):=j0c _ _ (by rw[hlf];omega)
 clear hid ht hlf
 unfold idv
 go_enter func71,ntmps71
 go_upto_region 1 with (fail)
 rw[j1n]
 generalize (w.alloc (.cells (j0d 32 id) 26)).alloc (.cells (j0d 32 []) 26)=W at *
 refine rgQ [0,1] [2] E1 rfl fun hw=>?_
 refine qv (v:= .slice (some ⟨w.heap.size,0,none⟩) 32 32) rfl (fun u hu=>j1R u rfl) hw ?_
 refine qc rfl func117 (fun u hu=>HLF.out u (EnvX.bel hu) (q4j (EnvX.lt hu (mT mH)) (j1p hu (mT mH) HSR.out))) hw ?_
 refine j0b<|(so rfl (Nat.le_succ _) mH (j08 _ HZ.out) ((j0c _ _ (by simp)).trans HZ.out.symm) (j0Q _ _) ?_)
 refine fun _=>enL fun u4 EX3=>?_
 have Q0:=hD (EnvX.box EX3.out _ _ mH)
 have HBEL:=hD EX3.out.bel
 clear EX3
 go_wp2_with ((with_reducible refine bodyPost_ret (v:= .agg (j0d 32 lf)) ?_ ?_ ?_);(exact results_cell_row (p:=2) (ty:=26) results71 _ _ (w.heap.size+1) 26 (j0d 32 lf) (0,0) _ rfl Q0.out underlying26 rfl (j08 _ HZ.out));(rfl))
 first|exact HBEL.out|exact⟨rfl,HBEL.out⟩
theorem q7m(l:List (List Int))(A:Option Addr)(n c:Nat)(w:World)(hl:l.length=n)(hn:n≤1000000)(hnc:n≤c)(hcm:c≤maxLen)(hI:isIds l)(hA:IdsIn w w.heap.size A l)(ht:Tables w):
  Calls Tryz.prog 70 #[.slice A n c, .func (.func 71) #[] #[]] w fun e w'=>(∃v,e= .returned v∧OwnI w' w.heap.size v (j1x l))∧Below w.heap.size w w':=by
 have HL:=hD hl
 have HIA:=hD (And.intro hI hA)
 have HTT:=hD ht
 have HN6:Hid (n≤1000000):=hn
 have HN63:Hid (n<9223372036854775808):=by show _<_;omega
 have HNM:Hid (n≤maxLen):=Nat.le_trans hnc hcm
 have E1:Hid (EnvX w w []):=EnvX.start w
 clear hl hI hA ht hnc hcm
 go_enter func70,ntmps70
 go_upto_region 1 with (fail)
 refine rgQ [0,1] [2,3] E1 rfl fun hw=>?_
 refine qo rfl hw ?_
 refine qv rfl (fun u hu=>j0l underlying35 HN63.out u rfl) hw ?_
 refine j0b<|(j0k (R:=fun v N=> ∃g cur,v= .slice (some ⟨g,0,none⟩) 0 n∧N=[(g,oc cur 26)]∧cur.size=n*32) (M0:=[]) rfl rfl (fun _ h=>h) (fun u hu=>q0V HN6.out rfl u) ?_)
 rintro _ _ ⟨gm,cm,rfl,rfl,hcm⟩ hf he2;intro K' hK';go_big_quiet_op;go_big_quiet_on
 have HCM:=hD hcm
 have HGM:=hD (hf _ (mS.2 rfl))
 clear hcm
 clear hf
 refine phE [3] [] he2 fun hw=>?_
 refine qo rfl hw ?_
 refine enP fun u5 EX4=>?_
 go_upto_region 2 with (fail)
 refine rgQ [0,1,2] [] EX4 rfl fun hw=>?_
 refine qo rfl hw ?_
 refine qv rfl (fun u hu=>j0l underlying35 HN63.out u rfl) hw ?_
 refine qo rfl hw ?_
 refine enP fun u8 EX7=>?_
 have HINV:Hid (OwnI u8 w.heap.size (.slice (some ⟨gm,0,none⟩) 0 n) (j1x (l.take 0))∧Below w.heap.size w u8):=by
  refine⟨?_,EnvX.bel EX7.out⟩
  have hF:FreshI [] (.slice (some ⟨gm,0,none⟩) 0 n) [(gm,oc cm 26)]:= .inl ⟨gm,n,cm,rfl,rfl,Nat.zero_le _,HNM.out,HCM.out,rfl⟩
  exact hF.own (fun y hy=>by cases hy) (fun y hy=>by cases mS.1 hy;exact⟨HGM.out.1,EnvX.box EX7.out _ _ mH⟩)
 clear EX7 E1 HCM HGM HNM
 go_upto_region 3 with (fail)
 go_loopw [5,13] (fun v iv u=> ∃k:Nat,k≤n∧iv= .int .i64 (k:Int)∧Hid (OwnI u w.heap.size v (j1x (l.take k))∧Below w.heap.size w u)) (fun _ iv _=>n- (intOf iv).toNat)
 case atStart=>exact⟨0,by omega,rfl,HINV⟩
 case round=>
  obtain⟨k,hk,rfl,hinv⟩:=hrel
  obtain⟨hO,hB⟩:=hinv.out
  clear hinv HINV
  by_cases hlt:k<n
  · have hlt2:(k:Int)<(n:Int):=by omega
    have hkl:k<l.length:=by rw[HL.out];exact hlt
    obtain⟨N,hF,hN⟩:=hO.fresh
    have HF:=hD hF
    have HNB:Hid (∀y∈N,w.heap.size≤y.1):=fun y hy=>(hN y hy).1
    have EK:Hid (EnvX w wr (N++[])):=⟨hB,fun g o hm=>(hN (g,o) (by rwa[List.append_nil]at hm)).2.1⟩
    obtain⟨ad,rfl,-⟩:=HIA.out.2.load HIA.out.1 hkl
    have HLD:Hid (∀u,Below w.heap.size w u→(loadVar 26 (ad.add (k*32))).run Tryz.prog u= .ok (idv (l.getD k [])) u):=fun u hu=>by
     obtain⟨ad2,e,h⟩:=(HIA.out.2.up hu).load HIA.out.1 hkl
     cases e
     exact h
    have hst:=q1s hkl
    have hQl:(j1x (l.take k)).length=k:=by rw[j7B,List.length_take];omega
    have HX:Hid (j3C (l.getD k [])):=HIA.out.1.get hkl
    have HLF:Hid (Rb w 71 #[idv (l.getD k [])] (idv (j4q (l.getD k [])))):=fun u hu=>q1T _ u HX.out (HTT.out.below hu)
    have HQ:Hid (isIds (j1x (l.take k))∧(j1x (l.take k)).length≤1000000):=⟨j3w _,by omega⟩
    have HKN:=hD hlt
    have HST:=hD hst
    clear hO hB hF hN hst hQl hkl hlt
    generalize j1x (l.take k)=Q at *
    generalize l.getD k []=x at *
    have HLX:Hid ((j4q x).length=32):=j1V _
    go_upto_region 4 with (fail)
    refine rgQ [0,1] [2,3] EK rfl fun hw=>?_
    refine qv rfl (fun u hu=>j0h underlying35 aggIdT.size HKN.out u rfl rfl) hw ?_
    refine qv rfl (fun u hu=>j0a u (HLD.out u (EnvX.bel hu)) rfl) hw ?_
    refine j0b<|qn rfl (q0m _) fun g7 HG7 he10=>?_
    change j1E _ _ _ _ _ _ ((g7,oc (j0d 32 []) 26)::(N++[]))
    refine(sh rfl HG7 (j08 _ (j0c _ _ (by rw[HX.out.1];omega))) ((j0c _ _ (by simp)).trans (j0c _ _ (by rw[HX.out.1];omega)).symm) (j0Q _ _) ?_)
    refine fun _=>enL fun u13 EX12=>?_
    go_upto_region 5 with (fail)
    refine rgP [0,1,2,3] [4,5,6] EX12 rfl ?_;intro hw14 hone
    iterate 2 refine qo rfl ⟨_,hw14⟩ ?_
    refine qv rfl (fun u hu=>j1f u (j21 hu mH HX.out.1) rfl) ⟨_,hw14⟩ ?_
    (refine j0I (f:=71) (args:= #[idv x]) (caps:= #[]) (all:= #[idv x]) (v:=idv (j4q x)) rfl rfl rfl rfl rfl func71 rfl rfl (fun u hu=>HLF.out u (EnvX.bel hu)) ?_ hw14;intro K hK;go_big_quiet_op;go_big_quiet_on)
    clear hone hw14
    refine j0b<|(j0k (R:=q1o (j4q x)) (M0:=((g7,oc (j0d 32 x) 26)::(N++[]))) rfl rfl (fun _ h=>h) (fun u hu=>j47 HLX.out rfl u) ?_)
    rintro _ _ ⟨gq,rfl,rfl⟩ hf he15;intro K' hK';go_big_quiet_op;go_big_quiet_on
    clear hf
    change j1E _ _ _ _ _ _ ((gq,oc (j0d 32 (j4q x)) 26)::((g7,oc (j0d 32 x) 26)::(N++[])))
    refine(j03 (gd:=none) (R:=q3U w (Q++[j4q x]) []) rfl rfl rfl rfl (fun u hu=>q11 [] hu HQ.out.1 HLX.out HF.out (fun y hy=>⟨mT (mT (mL hy)),HNB.out y hy⟩) mH (fun _ h=>by cases h) HQ.out.2 rfl rfl) ?_)
    rintro x9 M' ⟨N9,rfl,hF9,hn9⟩ he16;intro K' hK';go_big_quiet_op;go_big_quiet_on
    have HF9:=hD (And.intro hF9 hn9)
    clear hF9 hn9
    refine phE [6] [] he16 fun hw=>?_
    refine qo rfl hw ?_
    refine enP fun u19 EX18=>?_
    have HNX:Hid (OwnI u19 w.heap.size x9 (j1x (l.take (k+1)))∧Below w.heap.size w u19):=by
     refine⟨?_,EnvX.bel EX18.out⟩
     rw[HST.out]
     refine HF9.out.1.own (fun y hy=>?_) (fun y hy=>⟨(HF9.out.2 y hy).1,EnvX.box EX18.out _ _ (mL hy)⟩)
     rcases List.mem_append.1 hy with h|h
     · exact HQ.out.1 y h
     · cases mS.1 h;exact⟨j1V _,j3v _⟩
    go_wp2
    go_roundw
    case rel=>exact⟨k+1,by omega,by go_num,HNX⟩
    case measure=>simp[intOf];omega
  · obtain rfl:k=n:=by omega
    have hge: ¬(k:Int)<(k:Int):=by omega
    rw[tL (by rw[HL.out];exact Nat.le_refl _)]at hO
    have HO:=hD hO
    have HB:=hD hB
    clear hO hB
    go_wp2
    go_ret
    exact⟨⟨_,rfl,HO.out⟩,HB.out⟩
theorem j8C(l:List (List Int))(A:Option Addr)(n c:Nat)(w:World)(hl:l.length=n)(hn:n≤1000000)(hnc:n≤c)(hcm:c≤maxLen)(hI:isIds l)(hA:IdsIn w w.heap.size A l)(ht:Tables w):
  Rz 34 #[.slice A n c] w (idv (j1K (j1x l))):=by
 unfold Rz
 have HLV:Hid (∀u,Below w.heap.size w u→Calls Tryz.prog 70 #[.slice A n c, .func (.func 71) #[] #[]] u fun e w'=>(∃v,e= .returned v∧OwnI w' u.heap.size v (j1x l))∧Below u.heap.size u w'):=fun u hu=>q7m l A n c u hl hn hnc hcm hI (hA.up hu) (ht.below hu)
 have hri:=j3t (j3w l)
 have HRT:Hid (∀(u:World)(A1:Option Addr)(c1:Nat),Below w.heap.size w u→(j1x l).length≤c1→c1≤maxLen→IdsIn u u.heap.size A1 (j1x l)→Calls Tryz.prog 69 #[.slice A1 (j1x l).length c1] u fun e w'=>e= .returned (idv (j1K (j1x l)))∧Below u.heap.size u w'):=fun u A1 c1 hb h1 h2 h3=>q3a (j1x l) A1 _ c1 u rfl (by rw[j7B,hl];exact hn) (j3w l) h3 (ht.below hb)
 have E1:Hid (EnvX w (w.alloc (.cells (j0d 32 []) 26)) [(w.heap.size,oc (j0d 32 []) 26)]):=(EnvX.start w).new _
 generalize j1K (j1x l)=rt at *
 have HZ:Hid ((j0d 32 rt).size=32):=j0c _ _ (by rw[hri.1];omega)
 clear hl hI hA hri ht hnc hcm
 unfold idv
 go_enter func34,ntmps34
 go_upto_region 1 with (fail)
 rw[j1n]
 generalize w.alloc (.cells (j0d 32 []) 26)=W at *
 refine rgQ [0] [1,2,3] E1 rfl fun hw=>?_
 refine qo rfl hw ?_
 refine j0b<|qr rfl func70 (fun u hu=>j6w (HLV.out u (EnvX.bel hu))) ?_
 rintro x N1 hF hf he2
 obtain⟨A1,c1,rfl,hc1,hc2⟩:=FreshI.form hF
 have HF:=hD (And.intro hF (And.intro hc1 hc2))
 clear hF hc1 hc2
 clear hf
 refine phE [2] [3] he2 fun hw=>?_
 refine qc rfl func69 (fun u hu=>HRT.out u A1 c1 (EnvX.bel hu) HF.out.2.1 HF.out.2.2 (HF.out.1.ids (j3w l) hu (fun y hy=>mL hy))) hw ?_
 refine j0b<|(so rfl (Nat.le_refl _) (mR mH) (j08 _ HZ.out) ((j0c _ _ (by simp)).trans HZ.out.symm) (j0Q _ _) ?_)
 refine fun _=>enL fun u6 EX5=>?_
 have Q0:=hD (EnvX.box EX5.out _ _ mH)
 have HBEL:=hD EX5.out.bel
 clear EX5
 go_wp2_with ((with_reducible refine bodyPost_ret (v:= .agg (j0d 32 rt)) ?_ ?_ ?_);(exact results_cell_row (p:=2) (ty:=26) results34 _ _ (w.heap.size) 26 (j0d 32 rt) (0,0) _ rfl Q0.out underlying26 rfl (j08 _ HZ.out));(rfl))
 first|exact HBEL.out|exact⟨rfl,HBEL.out⟩
open Go.RowKit Go.Shelf
theorem q4l(q:Int)(k:Int)(w:World):
  Calls Tryz.prog 154 #[.int .u64 q, .int .i64 k] w fun e w'=>e= .returned (.func (.func 193) #[] #[.pointer (some ⟨w.heap.size+1,0,none⟩), .pointer (some ⟨w.heap.size,0,none⟩)])∧
   w'=(w.alloc (.cells #[.int .u64 q] 24)).alloc (.cells #[.int .i64 k] 3):=by
 go_enter func154,ntmps154
 go_wp2
 go_ret
 exact⟨rfl,rfl⟩
attribute [local go_sem] Oper.semAt_some
theorem q40(n:Nat)(h1n:1≤n)(l Bc Bf n₀ q:Nat)(hq:q<18446744073709551616)(cnt:Int)(K:Nat)(hcn:I64 cnt)(hK:cnt.toNat=K)(J Jx:List Nat→World→Prop)
  (hY: ∀pre x W,J pre W→pre.length<K→YieldAt Fence.wide (n- 1) Tryz.prog l #[.int .u64 (((q+x) % 18446744073709551616:Nat):Int)] W fun e W'=>
    (e= .returned (.bool true)∧J (pre++[x]) W'∧KpB n₀ Bf W W')∨(e= .returned (.bool false)∧Jx (pre++[x]) W'))
  (W:World) (hBc:W.cell? ⟨Bc,0,none⟩=some (.int .i64 cnt)) (hBf:Boxed W Bf 24 (.int .u64 (q:Int))) (h0:J [] W):
  CallsIn Fence.wide n Tryz.prog 193 #[.func (.yield l) #[] #[], .pointer (some ⟨Bc,0,none⟩), .pointer (some ⟨Bf,0,none⟩)] W fun e W'=>(∃v,e= .returned v)∧
    ((∃ys,ys=List.range K∧J ys W')∨(∃pre,(∃j,pre=List.range (j+1)∧j<K)∧Jx pre W')):=by
 unfold I64 at hcn
 have HYY:=hD hY
 have HBB:=hD hBf
 have HKK:=hD hK
 clear hY hBf
 refine callsIn_of_wp func193 rfl trivial ?_ rfl
 simp only[ntmps193,List.size_toArray,List.length_cons,List.length_nil,Nat.reduceAdd,Nat.reduceSub,Array.replicate_succ,Array.replicate_zero,List.push_toArray,List.append_toArray,List.nil_append,List.cons_append]
 gi_wp2
 gi_loopw [6] (fun i wr=> ∃j:Nat,j≤K∧i= .int .i64 (j:Int)∧Hid (J (List.range j) wr∧KpB n₀ Bf W wr))
  (fun i _=>K- (intOf i).toNat)
 case atStart=>exact⟨0,Nat.zero_le _,rfl,h0,⟨Below.refl _ _,fun _ h=>h⟩⟩
 case round=>
  obtain⟨j,hj,rfl,hinv⟩:=hrel
  obtain⟨hJ,hKp⟩:=hinv.out
  by_cases hlt:j<K
  · have hj2:(j:Int)<cnt:=by omega
    have hbx:Boxed wr Bf 24 (.int .u64 (q:Int)):=hKp.2 _ HBB.out
    have hcb:=hbx.cell
    obtain⟨fn,tmps,assign,body,hy,hR⟩:=HYY.out (List.range j) j wr hJ (by rw[List.length_range];exact hlt)
    obtain⟨z,hz⟩: ∃z,(q+j) % 18446744073709551616=z:=⟨_,rfl⟩
    rw[hz]at hy
    have s1:IntKind.u64.wrap (j:Int)=(j:Int):=by rw[IntKind.wrap_u64];omega
    have s2:IntKind.u64.wrap ((q:Int)+(j:Int))=(z:Int):=by rw[IntKind.wrap_u64];omega
    have HR:=hD hR
    have HKP:=hD hKp
    have HS:Hid (List.range j++[j]=List.range (j+1)):=List.range_succ.symm
    clear hJ hKp hinv hR hz hbx
    gi_wp2
    refine HR.out.mono ?_
    rintro e W3 (⟨rfl,hJ3,hk3⟩|⟨rfl,hJx3⟩)
    · rw[HS.out]at hJ3
      have HJ3:=hD hJ3
      have HK3:=hD hk3
      clear hJ3 hk3
      gi_wp2
      go_roundw
      case rel=>exact⟨j+1,by omega,by go_num,HJ3.out,HKP.out.trans HK3.out⟩
      case measure=>simp[intOf];omega
    · rw[HS.out]at hJx3
      gi_wp2
      refine bodyPost_ret (results_none rfl _ _ _) rfl ?_
      exact⟨⟨_,rfl⟩, .inr ⟨_,⟨j,rfl,hlt⟩,hJx3⟩⟩
  · obtain rfl:j=K:=by omega
    have hj3: ¬(j:Int)<cnt:=by omega
    have HJ:=hD hJ
    clear hJ hKp hinv
    gi_wp2
    go_end0
    first|exact⟨⟨_,rfl⟩, .inl HJ.out⟩|exact⟨⟨_,rfl⟩, .inl ⟨_,rfl,HJ.out⟩⟩
def j8d(q k:Nat):Nat:=(q+k) % 18446744073709551616
theorem q09(n:Nat)(h1n:1≤n)(Bc Bf n₀ q:Nat)(hq:q<18446744073709551616)(cnt:Int)(K:Nat)(hcn:I64 cnt)(hK:cnt.toNat=K)(w:World)(hBc:Boxed w Bc 3 (.int .i64 cnt))(hBf:Boxed w Bf 24 (.int .u64 (q:Int))):
  SeqStopsK Fence.wide n Tryz.prog 193 #[.pointer (some ⟨Bc,0,none⟩), .pointer (some ⟨Bf,0,none⟩)] (fun k:Nat=> #[.int .u64 (j8d q k:Int)]) (KpB n₀ Bf) (fun ys=>ys=List.range K) (fun pre=> ∃j,pre=List.range (j+1)∧j<K) K w:=fun l J Jx W hW _ _ hY h0=>
 q40 n h1n l Bc Bf n₀ q hq cnt K hcn hK J Jx hY W ((hW.cell (p:=⟨Bc,0,none⟩) hBc.lt).trans hBc.cell) ((hW.block Bf hBf.lt).trans hBf) h0
theorem j9q{q k:Int}{u:World}:Calls Tryz.prog 154 #[.int .u64 q, .int .i64 k] u (fun e w''=> ∃x N,e= .returned x∧(∃g1 g2,x= .func (.func 193) #[] #[.pointer (some ⟨g2,0,none⟩), .pointer (some ⟨g1,0,none⟩)]∧N=[(g2,oc #[.int .i64 k] 3),(g1,oc #[.int .u64 q] 24)])∧Below u.heap.size u w''∧ ∀y∈N,u.heap.size≤y.1∧w''.heap[y.1]?=some y.2):=by
 refine(q4l q k u).mono ?_
 rintro e w' ⟨rfl,rfl⟩
 refine⟨_,_,rfl,⟨_,_,rfl,rfl⟩,((Below.refl _ _).alloc (Nat.le_refl _) _).alloc (by simp) _,fun y hy=>?_⟩
 have E:=((EnvX.start u).two (.cells #[.int .u64 q] 24) (.cells #[.int .i64 k] 3))
 rcases List.mem_cons.1 hy with rfl|hy
 · exact⟨Nat.le_succ _,E.box _ _ mH⟩
 · cases mS.1 hy
   exact⟨Nat.le_refl _,E.box _ _ (mT mH)⟩
section
variable {a:Act}{dst:Option Tmp}{x y:Operand}{ty:TypeId}{pos:String}{after:Array Edge}{gd:Option (Nat × Bool)}
theorem x3j{m k r:Int}(u:World)(hr:min m k=r)(hx:a.eval x= .int .i64 m)(hy:a.eval y= .int .i64 k):
  (execOp a.eval ⟨dst, .call {callee:= .builtin .min,args:= #[x,y],argTypes:= #[3,3]},ty,pos,after,gd⟩).run Tryz.prog u= .ok (.value (.int .i64 r)) u:=by
 subst hr
 unfold execOp
 simp only[resolve,invoke,builtin,Sem.run_bind,Sem.run_pure,Result.andThen_ok,List.map_toArray,List.map_cons,List.map_nil,hx,hy]
 go_simp
 all_goals (split<;>omega)
end
theorem q3h: ∀w,(isAgg 4).run Tryz.prog w= .ok false w:=fun w=>by simp[isAgg,run_underlying underlying4]
theorem q54:(Tryz.prog.info? 4).map (·.size)=some 1:=by kernel_rfl
theorem x27{h:Hd}(k:j0M h)(z:Nat):(hdA h).setIfInBounds 134 (.int .u64 (z:Int))=hdA {h with nonce:=z}:=by
 obtain⟨p,hp,hl⟩: ∃p:List Value,(∀n:Nat,hdC {h with nonce:=n}=p++[.int .u64 (n:Int)])∧p.length=134:=by
  refine⟨[.int .i64 h.height]++((j0d 32 h.prev).toList++((j0d 32 h.links).toList++((j0d 32 h.txs).toList++((j0d 32 h.past).toList++((wcs h.work).toList++[.int .u32 h.bits]))))),fun n=>?_,?_⟩
  · unfold hdC
    simp only[aA]
  · simp only[lA,j0g k.1,j0g k.2.1,j0g k.2.2.1,j0g k.2.2.2,j1j,List.length_cons,List.length_nil]
 have e1:hdC h=p++[.int .u64 (h.nonce:Int)]:=hp h.nonce
 unfold hdA
 rw[e1,hp z,List.setIfInBounds_toArray,List.set_append_right _ _ (by omega),hl]
 rfl
attribute [local go_sem] Oper.semAt_some
theorem q76(h:Hd)(tries:Int)(w:World)(hh:okHd h)(ht:I64 tries)(hT:Tables w):
  Calls Tryz.prog 101 #[hdV h, .int .i64 tries] w fun e w'=>e= .returned (.tuple #[hdV (j3x h tries).1, .bool (j3x h tries).2])∧Below w.heap.size w w':=by
 have HL:=Lib.hid hh.len
 have HOK:=Lib.hid hh
 have HTB:=Lib.hid hT
 have HLE:Hid (w.heap.size≤w.heap.size+1):=by show _≤_;omega
 have HZN:Hid (j0M j2H):=⟨rfl,rfl,rfl,rfl⟩
 have HLE2:Hid (w.heap.size≤w.heap.size+1+1):=by show _≤_;omega
 obtain⟨K,hK⟩: ∃K,(min tries 200).toNat=K:=⟨_,rfl⟩
 have HK:=Lib.hid hK
 obtain⟨cnt,hcnt⟩: ∃cnt,min tries 200=cnt:=⟨_,rfl⟩
 have HCN:=Lib.hid hcnt
 have E1:Hid (EnvX w (((w.alloc (.cells (hdA h) 34)).alloc (.cells (hdA j2H) 34)).alloc (.cells #[.bool false] 4)) [(w.heap.size+1+1,Obj.cells #[.bool false] 4 (0,0)),(w.heap.size+1,Obj.cells (hdA j2H) 34 (0,0)),(w.heap.size,Obj.cells (hdA h) 34 (0,0))]):=by
  have k:=((EnvX.start w).two (.cells (hdA h) 34) (.cells (hdA j2H) 34)).new (.cells #[.bool false] 4)
  rwa[World.size_alloc,World.size_alloc]at k
 obtain⟨res,hres⟩: ∃res,j3x h tries=res:=⟨_,rfl⟩
 have HRES:=Lib.hid hres
 rw[hres]
 clear hres
 unfold I64 at ht
 clear hh hT
 unfold hdV
 refine(callsIn_wide (n:=4)).1 (callsIn_of_wp_marks func101 rfl trivial ((wpIn_wide (n:=4)).2 ?_) rfl)
 simp only[ntmps101,List.size_toArray,List.length_cons,List.length_nil,Nat.reduceAdd,Nat.reduceSub,Array.replicate_succ,Array.replicate_zero,List.push_toArray,List.append_toArray,List.nil_append,List.cons_append]
 go_upto_region 1 with (fail)
 rw[←q3w]
 generalize ((w.alloc (.cells (hdA h) 34)).alloc (.cells (hdA j2H) 34)).alloc (.cells #[.bool false] 4)=W at *
 refine rgP [0] [1,2] E1 rfl ?_;intro hw1 hone
 (refine j6a (v:=hdV h) rfl rfl (fun u hu=>j0a u (j7j hu (List.Mem.tail _ (List.Mem.tail _ (List.Mem.head _))) HL.out) rfl) ?_ hw1;intro K hK;go_big_quiet_op;go_big_quiet_on)
 clear hone hw1
 refine j0b ?_
 refine(j0k (R:=fun x N=> ∃g,x= .pointer (some ⟨g,0,none⟩)∧N=[(g,Obj.cells (hdA j2H) 34 (0,0))]) (M0:=[(w.heap.size+1+1,Obj.cells #[.bool false] 4 (0,0)),(w.heap.size+1,Obj.cells (hdA j2H) 34 (0,0)),(w.heap.size,Obj.cells (hdA h) 34 (0,0))]) rfl rfl (fun _ h=>h) (fun u hu=>j4k (q3A _) u) ?_)
 rintro _ _ ⟨gx,rfl,rfl⟩ hf he2;intro K' hK';go_big_quiet_op;go_big_quiet_on
 have HGX:=Lib.hid (hf _ (List.mem_singleton.2 rfl))
 clear hf
 change j1E _ _ _ _ _ _ [(gx,Obj.cells (hdA j2H) 34 (0,0)),(w.heap.size+1+1,Obj.cells #[.bool false] 4 (0,0)),(w.heap.size+1,Obj.cells (hdA j2H) 34 (0,0)),(w.heap.size,Obj.cells (hdA h) 34 (0,0))]
 refine(j0z rfl (gx) (hdA h) rfl rfl HGX.out.1 34 ((hdA j2H)) (List.Mem.head _) (j6N _ (j1r HL.out)) ((j1r HZN.out).trans (j1r HL.out).symm) (j5r _) [(gx,Obj.cells (hdA h) 34 (0,0)),(w.heap.size+1+1,Obj.cells #[.bool false] 4 (0,0)),(w.heap.size+1,Obj.cells (hdA j2H) 34 (0,0)),(w.heap.size,Obj.cells (hdA h) 34 (0,0))] (List.forall_mem_cons.2 ⟨.inl rfl,fun y hy=> .inr ⟨List.mem_cons_of_mem _ hy,HGX.out.2 y hy⟩⟩) ?_)
 intro he3
 intro u5 E2'
 have EX4:=Lib.hid E2'
 clear E2'
 go_upto_region 2 with (fail)
 refine rgP [0,1,2,3] [4] EX4 rfl ?_;intro hw6 hone
 (refine j4E rfl rfl rfl ?_;intro K hK;go_big_quiet_op;go_big_quiet_on)
 (refine j6a (v:= .int .u64 (h.nonce:Int)) rfl rfl (fun u hu=>j0a u (j6C hu (List.Mem.tail _ (List.Mem.tail _ (List.Mem.tail _ (List.Mem.head _)))) HL.out) rfl) ?_ hw6;intro K hK;go_big_quiet_op;go_big_quiet_on)
 (refine j4E rfl rfl rfl ?_;intro K hK;go_big_quiet_op;go_big_quiet_on)
 (refine j6a (v:= .int .i64 cnt) rfl rfl (fun u hu=>x3j u HCN.out rfl rfl) ?_ hw6;intro K hK;go_big_quiet_op;go_big_quiet_on)
 clear hone hw6
 refine j0b ?_
 refine(j0k (R:=fun x N=> ∃g1 g2,x= .func (.func 193) #[] #[.pointer (some ⟨g2,0,none⟩), .pointer (some ⟨g1,0,none⟩)]∧N=[(g2,Obj.cells #[.int .i64 cnt] 3 (0,0)),(g1,Obj.cells #[.int .u64 (h.nonce:Int)] 24 (0,0))]) (M0:=[(gx,Obj.cells (hdA h) 34 (0,0)),(w.heap.size+1+1,Obj.cells #[.bool false] 4 (0,0)),(w.heap.size+1,Obj.cells (hdA j2H) 34 (0,0)),(w.heap.size,Obj.cells (hdA h) 34 (0,0))]) rfl rfl (fun _ h=>h) (fun u hu=>j6X (fid:=154) (xs:= #[.tmp 10, .tmp 12]) (args:= #[.int .u64 (h.nonce:Int), .int .i64 cnt]) rfl func154 rfl rfl u (j9q)) ?_)
 rintro _ _ ⟨gf,gc,rfl,rfl⟩ hf he7;intro K' hK';go_big_quiet_op;go_big_quiet_on
 have HGC:=Lib.hid (hf _ (List.Mem.head _))
 have HGF:=Lib.hid (hf _ (List.Mem.tail _ (List.Mem.head _)))
 clear hf
 change j1E _ _ _ _ _ _ [(gc,Obj.cells #[.int .i64 cnt] 3 (0,0)),(gf,Obj.cells #[.int .u64 (h.nonce:Int)] 24 (0,0)),(gx,Obj.cells (hdA h) 34 (0,0)),(w.heap.size+1+1,Obj.cells #[.bool false] 4 (0,0)),(w.heap.size+1,Obj.cells (hdA j2H) 34 (0,0)),(w.heap.size,Obj.cells (hdA h) 34 (0,0))]
 refine enL fun u9 EX8=>?_
 clear he2 he3 EX4 E1
 have EX:=EX8.out
 clear EX8
 have hsz:=EX.bel.size
 have hnon:=HOK.out.2.2.2.2.2.2.2
 have hcn:I64 cnt:=by unfold I64;omega
 have hck:cnt.toNat=K:=by omega
 have HGX2:Hid (w.heap.size≤gx∧gx≠gc∧gx≠gf∧gx≠w.heap.size+1+1∧gx≠w.heap.size+1∧gx≠w.heap.size):=by
  have a1:=HGX.out.2 _ (List.Mem.head _)
  have a2:=HGX.out.2 _ (List.Mem.tail _ (List.Mem.head _))
  have a3:=HGX.out.2 _ (List.Mem.tail _ (List.Mem.tail _ (List.Mem.head _)))
  have b1:=HGC.out.2 _ (List.Mem.head _)
  have b2:=HGF.out.2 _ (List.Mem.head _)
  dsimp only at a1 a2 a3 b1 b2
  exact⟨HGX.out.1,b1,b2,Ne.symm a1,Ne.symm a2,Ne.symm a3⟩
 have HGF2:Hid (gf≠w.heap.size+1+1∧gf≠w.heap.size+1):=by
  have b1:=HGF.out.2 _ (List.Mem.tail _ (List.Mem.head _))
  have b2:=HGF.out.2 _ (List.Mem.tail _ (List.Mem.tail _ (List.Mem.head _)))
  dsimp only at b1 b2
  exact⟨Ne.symm b1,Ne.symm b2⟩
 have HCL:Hid (∀(m:Nat),∀x∈[(gc,Obj.cells #[.int .i64 cnt] 3 (0,0)),(gf,Obj.cells #[.int .u64 (h.nonce:Int)] 24 (0,0)),(gx,Obj.cells (hdA {h with nonce:=m}) 34 (0,0)),(w.heap.size+1+1,Obj.cells #[.bool false] 4 (0,0)),(w.heap.size+1,Obj.cells (hdA j2H) 34 (0,0)),(w.heap.size,Obj.cells (hdA h) 34 (0,0))],x.2.isCells=true):=fun m x hx=>by
  simp only[List.mem_cons,List.not_mem_nil,or_false]at hx
  rcases hx with rfl|rfl|rfl|rfl|rfl|rfl<;>rfl
 go_wp2_with fail
 refine(wpIn_wide (n:=4)).1 ?_
 refine wpIn_rangeFunc_ownF (F:=Fence.wide) (α:=Nat) (gf:=193) (lb:= #[.pointer (some ⟨gc,0,none⟩), .pointer (some ⟨gf,0,none⟩)]) rfl (by decide) rfl trivial (enters_of func193 (by kernel_rfl) rfl)
  (q09 3 (by decide) gc gf w.heap.size h.nonce hnon cnt K hcn hck u9 (EnvX.box EX _ _ (List.Mem.head _)) (EnvX.box EX _ _ (List.Mem.tail _ (List.Mem.head _)))) KpB.trans (KpB.put hsz (EnvX.lt EX (List.Mem.tail _ (List.Mem.head _)))) (Below.refl _ _) (fun _=>rfl)
  (fun pre W=>(∀x∈pre,j4U (j0T h x)=false)∧ ∃m:Nat,EnvX w W [(gc,Obj.cells #[.int .i64 cnt] 3 (0,0)),(gf,Obj.cells #[.int .u64 (h.nonce:Int)] 24 (0,0)),(gx,Obj.cells (hdA {h with nonce:=m}) 34 (0,0)),(w.heap.size+1+1,Obj.cells #[.bool false] 4 (0,0)),(w.heap.size+1,Obj.cells (hdA j2H) 34 (0,0)),(w.heap.size,Obj.cells (hdA h) 34 (0,0))])
  (fun c pre W=>c= .ret∧ ∃(pre':List Nat)(k:Nat),pre=pre'++[k]∧(∀x∈pre',j4U (j0T h x)=false)∧j4U (j0T h k)=true∧EnvX w W [(w.heap.size+1+1,Obj.cells #[.bool true] 4 (0,0)),(w.heap.size+1,Obj.cells (hdA (j0T h k)) 34 (0,0))])
  (fun s A B row hs hg hr=>⟨hs.1,hs.2.imp fun m he=>q0T he (HCL.out m) hsz hg hr⟩)
  (fun c s A B row hs hg hr=>⟨hs.1,hs.2.imp fun pre' hs=>hs.imp fun k hs=>⟨hs.1,hs.2.1,hs.2.2.1,q0T hs.2.2.2 (fun x hx=>by
   simp only[List.mem_cons,List.not_mem_nil,or_false]at hx
   rcases hx with rfl|rfl<;>rfl) hsz hg hr⟩⟩)
  ⟨(fun x hx=>by cases hx),h.nonce,EX⟩
  (fun k=>{tmps:= #[.agg (hdA h), .int .i64 tries, .pointer (some ⟨w.heap.size,0,none⟩),undef, .pointer (some ⟨w.heap.size+1,0,none⟩), .pointer (some ⟨w.heap.size+1+1,0,none⟩), .pointer (some ⟨gx,0,none⟩), .int .u64 (j8d h.nonce k:Int),hdV h, .pointer (some ⟨w.heap.size,134,none⟩), .int .u64 (h.nonce:Int), .int .i64 tries, .int .i64 cnt, .func (.func 193) #[] #[.pointer (some ⟨gc,0,none⟩), .pointer (some ⟨gf,0,none⟩)], .int .u64 (j8d h.nonce k:Int),undef,undef,undef,undef,undef,undef],defers:=[]}) ?assign ?body ?done ?stop
 case assign=>
  intro l k W K hK
  gi_wp2
  exact hK
 case body=>
  rintro l pre k W ⟨hno,m,hI⟩ hlen
  have r0:Row W gx 34 (hdA {h with nonce:=m}):=EnvX.box hI _ _ (List.Mem.tail _ (List.Mem.tail _ (List.Mem.head _)))
  have hc:W.cell? ⟨gx,134,none⟩=some (.int .u64 (m:Int)):=(r0.cell 134).trans (j5y (h:={h with nonce:=m}) HL.out)
  have hf:=r0.frozen 134
  refine wpIn_block (wpIn_seq ?_)
  refine j2X (by kernel_rfl) (fun h=>by obtain⟨_,_,h⟩:=h;exact h) ?_
  go_wp2
  have E1:Hid (EnvX w (W.setCell ⟨gx,134,none⟩ (.int .u64 (j8d h.nonce k:Int))) [(gc,Obj.cells #[.int .i64 cnt] 3 (0,0)),(gf,Obj.cells #[.int .u64 (h.nonce:Int)] 24 (0,0)),(gx,Obj.cells (hdA (j0T h k)) 34 (0,0)),(w.heap.size+1+1,Obj.cells #[.bool false] 4 (0,0)),(w.heap.size+1,Obj.cells (hdA j2H) 34 (0,0)),(w.heap.size,Obj.cells (hdA h) 34 (0,0))]):=by
   refine⟨hI.bel.setCell (p:=⟨gx,134,none⟩) HGX2.out.1 _,fun g o hm=>?_⟩
   have hne: ∀g' o',(g',o')∈[(gc,Obj.cells #[.int .i64 cnt] 3 (0,0)),(gf,Obj.cells #[.int .u64 (h.nonce:Int)] 24 (0,0)),(gx,Obj.cells (hdA {h with nonce:=m}) 34 (0,0)),(w.heap.size+1+1,Obj.cells #[.bool false] 4 (0,0)),(w.heap.size+1,Obj.cells (hdA j2H) 34 (0,0)),(w.heap.size,Obj.cells (hdA h) 34 (0,0))]→gx≠g'→(W.setCell ⟨gx,134,none⟩ (.int .u64 (j8d h.nonce k:Int))).heap[g']?=some o':=fun g' o' hm hn=>(Below.heap_setCell W ⟨gx,134,none⟩ _ g' (Ne.symm hn)).trans (hI.box g' o' hm)
   have hG:=HGX2.out.2
   simp only[List.mem_cons,Prod.mk.injEq,List.not_mem_nil,or_false]at hm
   rcases hm with ⟨rfl,rfl⟩|⟨rfl,rfl⟩|⟨rfl,rfl⟩|⟨rfl,rfl⟩|⟨rfl,rfl⟩|⟨rfl,rfl⟩
   · exact hne _ _ (List.Mem.head _) hG.1
   · exact hne _ _ (List.Mem.tail _ (List.Mem.head _)) hG.2.1
   · have:=r0.put 134 (.int .u64 (j8d h.nonce k:Int))
     rw[x27 (h:={h with nonce:=m}) HL.out]at this
     exact this
   · exact hne _ _ (List.Mem.tail _ (List.Mem.tail _ (List.Mem.tail _ (List.Mem.head _)))) hG.2.2.1
   · exact hne _ _ (List.Mem.tail _ (List.Mem.tail _ (List.Mem.tail _ (List.Mem.tail _ (List.Mem.head _))))) hG.2.2.2.1
   · exact hne _ _ (List.Mem.tail _ (List.Mem.tail _ (List.Mem.tail _ (List.Mem.tail _ (List.Mem.tail _ (List.Mem.head _)))))) hG.2.2.2.2
  have HKO:Hid (KeepsOthers W (W.setCell ⟨gx,134,none⟩ (.int .u64 (j8d h.nonce k:Int)))∧Below w.heap.size W (W.setCell ⟨gx,134,none⟩ (.int .u64 (j8d h.nonce k:Int)))):=⟨KeepsOthers.setCell _ _ _,(Below.refl _ _).setCell (p:=⟨gx,134,none⟩) HGX2.out.1 _⟩
  have HNO:=Lib.hid hno
  have HI:=Lib.hid hI
  have HLK:j0M (j0T h k):=HL.out
  have HWS:Hid (w.heap.size≤W.heap.size):=hI.bel.size
  clear hc hf r0 hno hI
  generalize W.setCell ⟨gx,134,none⟩ (.int .u64 (j8d h.nonce k:Int))=W1 at *
  refine wpIn_seq ?_
  refine j2X (by kernel_rfl) (fun h=>by obtain⟨_,_,h⟩:=h;exact h) ?_
  have HLD:Hid ((loadVar 34 ⟨gx,0,none⟩).run Tryz.prog W1= .ok (.agg (hdA (j0T h k))) W1):=j7j E1.out (List.Mem.tail _ (List.Mem.tail _ (List.Mem.head _))) HLK
  go_wp2_with ((with_reducible refine j1W (o:=⟨some 17,_,_,_,_,_⟩) ?_ 34 (.tmp 6) ?_ ⟨gx,0,none⟩ ?_ HLD.out ?_);(rfl);(rfl);(rfl))
  refine(q3n (j0T h k) W1 (j8O HOK.out k) (HTB.out.below E1.out.bel)).mono ?_
  rintro e W2 ⟨rfl,hb2⟩
  have E2:Hid (EnvX w W2 [(gc,Obj.cells #[.int .i64 cnt] 3 (0,0)),(gf,Obj.cells #[.int .u64 (h.nonce:Int)] 24 (0,0)),(gx,Obj.cells (hdA (j0T h k)) 34 (0,0)),(w.heap.size+1+1,Obj.cells #[.bool false] 4 (0,0)),(w.heap.size+1,Obj.cells (hdA j2H) 34 (0,0)),(w.heap.size,Obj.cells (hdA h) 34 (0,0))]):=EnvX.below E1.out hb2
  have HKO2:Hid (KeepsOthers W W2∧Below w.heap.size W W2):=⟨HKO.out.1.trans (j6j hb2),HKO.out.2.trans (hb2.mono (Nat.le_trans HWS.out HKO.out.2.size))⟩
  clear hb2 E1 HLD HKO
  cases hm:j4U (j0T h k)with
  |false=>
   have HNO2:Hid (∀x∈pre++[k],j4U (j0T h x)=false):=fun x hx=>by
     rcases List.mem_append.1 hx with hx|hx
     · exact HNO.out x hx
     · cases List.mem_singleton.1 hx
       exact hm
   clear hm
   go_wp2
   refine wpIn_cond_false rfl (wpIn_skip ?_)
   exact⟨HKO2.out.1,⟨HKO2.out.2,fun o ho=>by
     rw[EnvX.box HI.out _ _ (List.Mem.tail _ (List.Mem.head _))]at ho
     cases ho
     exact EnvX.box E2.out _ _ (List.Mem.tail _ (List.Mem.head _))⟩,HNO2.out,j8d h.nonce k,E2.out⟩
  |true=>
   go_wp2
   refine wpIn_cond_true rfl (wpIn_seq ?_)
   refine j2X (by kernel_rfl) (fun h=>by obtain⟨_,_,h⟩:=h;exact h) ?_
   have HM:=Lib.hid hm
   have HLD:Hid ((loadVar 34 ⟨gx,0,none⟩).run Tryz.prog W2= .ok (.agg (hdA (j0T h k))) W2):=j7j E2.out (List.Mem.tail _ (List.Mem.tail _ (List.Mem.head _))) HLK
   have R1:Hid (W2.heap[w.heap.size+1]?=some (.cells (hdA j2H) 34 (0,0))):=EnvX.box E2.out _ _ (List.Mem.tail _ (List.Mem.tail _ (List.Mem.tail _ (List.Mem.tail _ (List.Mem.head _)))))
   have R2:Hid (Row (W2.setRow (w.heap.size+1) (hdA (j0T h k))) (w.heap.size+1+1) 4 #[.bool false]):=Row.setRowFar (EnvX.box E2.out _ _ (List.Mem.tail _ (List.Mem.tail _ (List.Mem.tail _ (List.Mem.head _))))) (by omega)
   have R3:Hid (Row (W2.setRow (w.heap.size+1) (hdA (j0T h k))) (w.heap.size+1) 34 (hdA (j0T h k))):=Row.setRow R1.out
   have hc2:=R2.out.cell 0
   have hf2:=R2.out.frozen 0
   have HK3:Hid (KeepsOthers W (W2.setRow (w.heap.size+1) (hdA (j0T h k)))∧Below w.heap.size W (W2.setRow (w.heap.size+1) (hdA (j0T h k)))):=⟨HKO2.out.1.trans (KeepsOthers.setRow' R1.out),j0G HKO2.out.2 (Nat.le_succ _) _⟩
   have hszk:Hid ((hdA (j0T h k)).size=135):=j1r HLK
   have hsz0:Hid ((hdA j2H).size=135):=j1r HZN.out
   have ho:=Lib.hid (j5r (j0T h k))
   clear hm E2 HKO2
   generalize hE2:hdA (j0T h k)=cs at *
   have HE:=Lib.hid hE2
   clear hE2
   generalize hdA j2H=zs at *
   go_wp2_with (first
     |((with_reducible refine j1W (o:=⟨some 19,_,_,_,_,_⟩) ?_ 34 (.tmp 6) ?_ ⟨gx,0,none⟩ ?_ HLD.out ?_);(rfl);(rfl);(rfl))
     |((with_reducible refine wpList_store_row (o:=⟨none, .store 34 _ _,_,_,_,_⟩) ?_ 34 (.tmp 4) (.tmp 19) ?_ (w.heap.size+1) cs ?_ ?_ 34 zs R1.out (j6N cs hszk.out) (by rw[hsz0.out,hszk.out]) ho.out ?_);(rfl);(rfl);(rfl);(rfl)))
   refine wpIn_ret ?_
   refine⟨HK3.out.1.trans (KeepsOthers.setCell _ _ _),rfl,pre,k,rfl,HNO.out,HM.out,⟨?_,fun g o hm=>?_⟩⟩
   · exact(HI.out.bel.trans HK3.out.2).setCell (p:=⟨w.heap.size+1+1,0,none⟩) (by show w.heap.size≤w.heap.size+1+1;omega) _
   · rw[HE.out]at hm
     simp only[List.mem_cons,Prod.mk.injEq,List.not_mem_nil,or_false]at hm
     rcases hm with ⟨rfl,rfl⟩|⟨rfl,rfl⟩
     · exact R2.out.put 0 (.bool true)
     · exact R3.out.farAt (by omega) _
 case done=>
  rintro D ys W hD rfl ⟨hno,m,hI⟩ hK
  have HMI:j3x h tries=(h,false):=q73 (by rw[HK.out];exact fun j hj=>hno j (List.mem_range.2 hj))
  have hs1:=EnvX.lt EX (List.Mem.tail _ (List.Mem.tail _ (List.Mem.tail _ (List.Mem.tail _ (List.Mem.head _)))))
  have hs2:=EnvX.lt EX (List.Mem.tail _ (List.Mem.tail _ (List.Mem.tail _ (List.Mem.head _))))
  have HD:Hid (w.heap.size+1≠D∧w.heap.size+1+1≠D∧w.heap.size≤D):=⟨by omega,by omega,by omega⟩
  have EI:Hid (EnvX w W [(D,Obj.deferred (some [])),(w.heap.size+1+1,Obj.cells #[.bool false] 4 (0,0)),(w.heap.size+1,Obj.cells (hdA j2H) 34 (0,0)),(w.heap.size,Obj.cells (hdA h) 34 (0,0))]):=⟨hI.bel,fun g o hm=>(List.mem_cons.1 hm).elim (fun e=>by cases e;exact hK) (fun hm=>hI.box g o (List.mem_cons_of_mem _ (List.mem_cons_of_mem _ (List.mem_cons_of_mem _ hm))))⟩
  have HRE:Hid (res=(h,false)):=HRES.out.symm.trans HMI
  clear hno hI hK hs1 hs2 hD HMI EX
  go_upto_region 7 with (fail)
  refine rgP [0] [1,2] EI rfl ?_;intro hw701 hone
  (refine j6a (v:=hdV h) rfl rfl (fun u hu=>j0a u (j7j hu (List.Mem.tail _ (List.Mem.tail _ (List.Mem.tail _ (List.Mem.head _)))) HL.out) rfl) ?_ hw701;intro K hK;go_big_quiet_op;go_big_quiet_on)
  clear hone hw701
  refine j0b ?_
  refine(j0z rfl (w.heap.size+1) (hdA h) rfl rfl HLE.out 34 ((hdA j2H)) (List.Mem.tail _ (List.Mem.tail _ (List.Mem.head _))) (j6N _ (j1r HL.out)) ((j1r HZN.out).trans (j1r HL.out).symm) (j5r _) [(w.heap.size+1,Obj.cells (hdA h) 34 (0,0)),(w.heap.size+1+1,Obj.cells #[.bool false] 4 (0,0)),(D,Obj.deferred (some []))] (List.forall_mem_cons.2 ⟨.inl rfl,List.forall_mem_cons.2 ⟨.inr ⟨(List.Mem.tail _ (List.Mem.head _)),(by show w.heap.size+1+1≠_;omega)⟩,List.forall_mem_cons.2 ⟨.inr ⟨(List.Mem.head _),(Ne.symm HD.out.1)⟩,(fun _ h=>by cases h)⟩⟩⟩) ?_)
  intro he702
  refine(j33 rfl (w.heap.size+1+1) (0) (.bool false) rfl rfl HLE2.out 4 (#[.bool false]) (#[.bool false]) (List.Mem.tail _ (List.Mem.head _)) q54 (by decide) (by simp[Value.cells];rfl) rfl [(w.heap.size+1+1,Obj.cells (#[.bool false]) 4 (0,0)),(w.heap.size+1,Obj.cells (hdA h) 34 (0,0)),(D,Obj.deferred (some []))] (List.forall_mem_cons.2 ⟨.inl rfl,List.forall_mem_cons.2 ⟨.inr ⟨(List.Mem.head _),(by show w.heap.size+1≠_;omega)⟩,List.forall_mem_cons.2 ⟨.inr ⟨(List.Mem.tail _ (List.Mem.tail _ (List.Mem.head _))),(Ne.symm HD.out.2.1)⟩,(fun _ h=>by cases h)⟩⟩⟩) ?_)
  intro he703
  intro u705 E2'
  have EX704:=Lib.hid E2'
  clear E2'
  have EJ:=EX704.out
  clear EX704
  have hkD:=EnvX.box EJ _ _ (List.Mem.tail _ (List.Mem.tail _ (List.Mem.head _)))
  have hbelD:Hid (Below w.heap.size w (u705.putObj D (.deferred none))):=EJ.bel.trans (belowK_b (w:=w) (Nat.le_refl _) u705 D _ _ HD.out.2.2 hkD rfl rfl)
  have g1:(u705.putObj D (.deferred none)).heap[w.heap.size+1]?=some (.cells (hdA h) 34 (0,0)):=(World.putObj_heap_other HD.out.1).trans (EnvX.box EJ _ _ (List.Mem.tail _ (List.Mem.head _)))
  have g2:Row (u705.putObj D (.deferred none)) (w.heap.size+1+1) 4 #[.bool false]:=(World.putObj_heap_other HD.out.2.1).trans (EnvX.box EJ _ _ (List.Mem.head _))
  have HKD:=Lib.hid hkD
  have HG:=Lib.hid (And.intro g1 g2)
  clear EJ hkD g1 g2
  go_wp2
  refine⟨by simp, .inl ⟨_,_,rfl,run_takeDeferred HKD.out,?_⟩⟩
  exact⟨_,j4n (p:=4) (q:=5) (ty:=34) (ty':=4) results101 _ _ (w.heap.size+1) (w.heap.size+1+1) 34 (hdA h) (0,0) _ rfl rfl (.bool false) (j0f q3h _ (HG.out.2.cell 0)) HG.out.1 underlying34 rfl (j6N _ (j1r HL.out)),by rw[HRE.out],hbelD.out⟩
 case stop=>
  rintro D c pre W hD ⟨j,hpre,hj⟩ ⟨rfl,pre',k,hpk,hno,hyes,hI⟩ hK
  obtain⟨rfl,hkj⟩:=List.append_inj' (hpk.symm.trans (hpre.trans List.range_succ)) rfl
  obtain rfl:k=j:=by simpa using hkj
  have HMI:j3x h tries=(j0T h k,true):=q6E (by rw[HK.out];exact hj) (fun i hi=>hno i (List.mem_range.2 hi)) hyes
  have HLK:j0M (j0T h k):=HL.out
  have hs1:=EnvX.lt EX (List.Mem.tail _ (List.Mem.tail _ (List.Mem.tail _ (List.Mem.tail _ (List.Mem.head _)))))
  have hs2:=EnvX.lt EX (List.Mem.tail _ (List.Mem.tail _ (List.Mem.tail _ (List.Mem.head _))))
  have hbelD:Hid (Below w.heap.size w (W.putObj D (.deferred none))):=hI.bel.trans (belowK_b (w:=w) (Nat.le_refl _) W D _ _ (by omega) hK rfl rfl)
  have g1:(W.putObj D (.deferred none)).heap[w.heap.size+1]?=some (.cells (hdA (j0T h k)) 34 (0,0)):=(World.putObj_heap_other (by omega)).trans (EnvX.box hI _ _ (List.Mem.tail _ (List.Mem.head _)))
  have g2:Row (W.putObj D (.deferred none)) (w.heap.size+1+1) 4 #[.bool true]:=(World.putObj_heap_other (by omega)).trans (EnvX.box hI _ _ (List.Mem.head _))
  have HKD:=Lib.hid hK
  have HG:=Lib.hid (And.intro g1 g2)
  have HRE:Hid (res=(j0T h k,true)):=HRES.out.symm.trans HMI
  refine wpIn_ret ?_
  refine⟨by simp, .inl ⟨_,_,rfl,run_takeDeferred HKD.out,?_⟩⟩
  exact⟨_,j4n (p:=4) (q:=5) (ty:=34) (ty':=4) results101 _ _ (w.heap.size+1) (w.heap.size+1+1) 34 (hdA (j0T h k)) (0,0) _ rfl rfl (.bool true) (j0f q3h _ (HG.out.2.cell 0)) HG.out.1 underlying34 rfl (j6N _ (j1r HLK)),by rw[HRE.out],hbelD.out⟩
theorem j9O: ∀(r:List Tot)(x:Tot),okT x→okTs r→okTs (j5f x r)
 |[],x,hx,_=>fun t ht=>by cases mS.1 ht;exact hx
 |y::r,x,hx,hr=>by
  unfold j5f
  split
  · exact j9O r _ join_ok (fun t ht=>hr t (mT ht))
  · intro t ht
    rcases List.mem_cons.1 ht with rfl|h
    · exact hx
    · exact hr t h
theorem x2b{p:List Tot}{x:Tot}(hp:okTs p)(hx:okT x):okTs (j1A p x):=fun t ht=>by
 unfold j1A at ht
 exact j9O p.reverse x hx (fun s hs=>hp s (List.mem_reverse.1 hs)) t (List.mem_reverse.1 ht)
theorem x1w: ∀(r:List Tot)(x:Tot),okT x→okT (upT x r)
 |[],x,hx=>hx
 |y::r,x,_=>x1w r _ join_ok
theorem JLeft.own{w0 w:World}{l:List Tot}{v:Value}{M':j0e}(h:JLeft w0 [] l v M')(hl:okTs l)(hE:EnvX w0 w M'):OwnT w w0.heap.size v l:=by
 obtain⟨N,rfl,hF,hn⟩:=h
 exact hF.own (j2x hl) (fun y hy=>⟨(hn y hy).1,EnvX.box hE _ _ (mL hy)⟩)
theorem x0V(p:List Tot)(leaf:Tot)(A:Option Addr)(n c:Nat)(w:World)(hl:p.length=n)(hn:n≤1000000)(hI:okTs p)(hlf:okT leaf)(hA:TotsIn w w.heap.size A p)(ht:Tables w):
  Calls Tryz.prog 30 #[.slice A n c,j3j leaf] w fun e w'=>(∃v,e= .returned v∧OwnT w' w.heap.size v (j1A p leaf))∧Below w.heap.size w w':=by
 have HPL:Hid ((p.map j11).flatten.length=n*37):=by show _=_;rw[j2x hI,hl]
 have HLF:=hD hlf
 have HNB:Hid (n≤1000000):=hn
 have HOK:=hD (x2b hI hlf)
 have HCL:Hid (∀u,Below w.heap.size w u→Calls Tryz.prog 64 #[.slice A n c] u fun e w'=>(∃v,e= .returned v∧w'.ownsRow u.heap.size 61 37 v n (p.map j11).flatten)∧Below u.heap.size u w'):=fun u hb=>j52 p A n c u hl hn hI (hA.up hb)
 have HJL:Hid (∀(v:Value)(N:j0e)(u:World),FreshR 61 37 (n+1) ((p.map j11).flatten++j11 leaf) v N→j01 w N []→EnvX w u (N++[])→Calls Tryz.prog 63 #[v, .func (.func 62) #[] #[]] u fun e w''=> ∃x' M',e= .returned x'∧EnvX w w'' M'∧JLeft w [] (j1A p leaf) x' M'):=fun v N u hF hn2 hE=>by
  have hlen:p.reverse.length+1=n+1:=by rw[List.length_reverse,hl]
  have h:=jlA w [] p.reverse leaf v N u (fun t ht=>by
   rcases List.mem_cons.1 ht with rfl|h
   · exact hlf
   · exact hI t (List.mem_reverse.1 h)) (by rw[hlen];omega) (by
   rw[hlen,List.reverse_cons,List.reverse_reverse,List.map_append,List.flatten_append,List.map_singleton,List.flatten_singleton]
   exact hF) hn2 hE ht
  rw[q3S]at h
  exact h
 have E1:Hid (EnvX w (w.alloc (.cells (j0E leaf) 61)) [(w.heap.size,oc (j0E leaf) 61)]):=(EnvX.start w).new _
 clear hI hlf hA hl ht
 unfold j3j
 go_enter func30,ntmps30
 go_upto_region 2 with (fail)
 generalize w.alloc (.cells (j0E leaf) 61)=W at *
 refine rgK [0,2,5] 5 E1 rfl fun hw=>?_
 refine qo rfl hw ?_
 refine ql rfl mH HLF.out.len hw ?_
 refine qo rfl hw ?_
 refine j0b<|j5g (i:=1) (j:=3) (fun _ _ _ hM hh=>q2M _ _ _ hM hh) (by kernel_rfl) (by kernel_rfl) (by kernel_rfl) rfl rfl (by decide) (by kernel_rfl) rfl rfl (FreshR 61 37 n (p.map j11).flatten) (j2R 61 (j11 leaf)) [(w.heap.size,oc (j0E leaf) 61)] [(w.heap.size,oc (j0E leaf) 61)] (fun _ h=>h) (fun _ h=>h) (fun u hu=>j6X (fid:=64) (xs:= #[.tmp 6]) (args:= #[.slice A n c]) rfl func64 rfl rfl u (j0i (HCL.out u (EnvX.bel hu)))) (fun u hu=>j1q elTot (j16 HLF.out.len) (j22 _) rfl u) ?_
 rintro x1 N1 x2 N2 hF ⟨gb,rfl,rfl⟩ hf1 hf2 he2 K1 hK1;go_big_quiet_op;go_big_quiet_on;intro K' hK';go_big_quiet_op;go_big_quiet_on
 have HF:=hD hF
 have HN:=hD hf1
 clear hF
 clear hf1 hf2
 change j1s _ _ _ _ _ _ _ _ ((gb,oc (j11 leaf).toArray 61)::(N1++((w.heap.size,oc (j0E leaf) 61)::[])))
 refine aO 4 (j03 (gd:=none) (R:=j1N w 61 37 (n+1) ((p.map j11).flatten++j11 leaf) []) rfl rfl rfl rfl (fun u hu=>j1H elTot (m:=1) [] hu HPL.out (by rw[Nat.one_mul];exact j16 HLF.out.len) (j22 _) HF.out (fun y hy=>⟨mT (mL hy),(HN.out y hy).1⟩) (j1p (k:=0) hu mH (by rw[List.drop_zero,List.take_length])) (fun _ h=>by cases h) (by have:=HNB.out;omega) rfl rfl) ?_)
 rintro x9 M' ⟨N2,rfl,hF2,hn2⟩ he3;intro K' hK';go_big_quiet_op;go_big_quiet_on
 have HF2:=hD (And.intro hF2 hn2)
 clear hF2 hn2
 change j1s _ _ _ _ _ _ _ _ (N2++[])
 refine aO 6 (j0X (gd:=none) (R:=JLeft w [] (j1A p leaf)) rfl rfl rfl rfl (fun u hu=>j0D (fid:=63) (xs:= #[.tmp 10, .tmp 11]) (args:= #[x9, .func (.func 62) #[] #[]]) rfl func63 rfl rfl u (HJL.out x9 N2 u HF2.out.1 HF2.out.2 hu)) ?_)
 rintro x7 M' ⟨N7,rfl,hF7,hn7⟩ he4;intro K' hK';go_big_quiet_op;go_big_quiet_on
 have HJ:Hid (JLeft w [] (j1A p leaf) x7 (N7++[])):=⟨N7,rfl,hF7,hn7⟩
 clear hF7 hn7
 refine phF [7] 0 rfl he4 fun hw=>?_
 refine qo rfl hw ?_
 refine eH fun u7 EX6=>?_
 go_wp2
 go_ret
 exact⟨⟨_,rfl,HJ.out.own HOK.out EX6.out⟩,EnvX.bel EX6.out⟩
theorem q6i{u:World}{g:Nat}{cur:Array Value}{x:Tot}(hu:Row u g 61 cur)(hx:okT x)(hc:cur.toList.take ([x].length*37)=([x].map j11).flatten):(loadVar 61 ((⟨g,0,none⟩:Addr).add (0*37))).run Tryz.prog u= .ok (j3j x) u:=by
 have hok:okTs [x]:=fun t ht=>by cases mS.1 ht;exact hx
 obtain⟨a1,e1,h1⟩:=(j9y (cap:=0) hu hok rfl hc).loads hok (k:=0) (by simp)
 cases e1
 exact(h1 u (EnvX.start u)).1
theorem q1h(p:List Tot)(A:Option Addr)(n c:Nat)(w:World)(hl:p.length=n)(hn:n≤1000000)(hI:okTs p)(hA:TotsIn w w.heap.size A p)(ht:Tables w):
   Rz 31 #[.slice A n c] w (j3j (j3M p)):=by
 unfold Rz
 unfold j3j
 have E1:Hid (EnvX w (w.alloc (.cells (j0E j3i) 61)) [(w.heap.size,oc (j0E j3i) 61)]):=(EnvX.start w).new _
 by_cases h0:n=0
 · subst h0
   obtain rfl:=List.eq_nil_of_length_eq_zero hl
   rw[show j3M []=noTot from rfl]
   have HOF:Hid (∀u g,Below w.heap.size w u→Parts u u.heap.size (some ⟨g,0,none⟩) [[4]]→Calls Tryz.prog 65 #[.slice (some ⟨g,0,none⟩) 1 1] u fun e w'=>e= .returned (idv (j4x [4]))∧Below u.heap.size u w'):=fun u g hb hP=>j4a (some ⟨g,0,none⟩) 1 1 [[4]] u rfl hP (by omega) (by decide) (ht.below hb)
   clear hI hA hl ht
   go_enter func31,ntmps31
   go_upto_region 2 with (fail)
   rw[j3R]
   generalize w.alloc (.cells (j0E j3i) 61)=W at *
   refine j07 (w0:=w) [0,1,2,3,4] [(w.heap.size,oc (j0E j3i) 61)] rfl E1.out ?_
   refine(j0k (R:=fun v N=> ∃g,v= .slice (some ⟨g,0,none⟩) 1 1∧N=[(g,oc #[.int .u8 4] 5)]) (M0:=[(w.heap.size,oc (j0E j3i) 61)]) rfl rfl (fun _ h=>h) (fun u hu=>j39 4 u) ?_)
   rintro _ _ ⟨gt,rfl,rfl⟩ hf he1;intro K' hK';go_big_quiet_op;go_big_quiet_on
   clear hf
   change j1E _ _ _ _ _ _ [(gt,oc #[.int .u8 4] 5),(w.heap.size,oc (j0E j3i) 61)]
   refine(j0k (R:=fun v N=> ∃g,v= .slice (some ⟨g,0,none⟩) 1 1∧N=[(g,oc #[.slice (some ⟨gt,0,none⟩) 1 1] 100)]) (M0:=[(gt,oc #[.int .u8 4] 5),(w.heap.size,oc (j0E j3i) 61)]) rfl rfl (fun _ h=>h) (fun u hu=>q8z rfl u) ?_)
   rintro _ _ ⟨gr,rfl,rfl⟩ hf he2;intro K' hK';go_big_quiet_op;go_big_quiet_on
   clear hf
   refine phE [2,3] [4] he2 fun hw=>?_
   refine qc rfl func65 (fun u hu=>HOF.out u gr (EnvX.bel hu) (q0s (EnvX.lt hu mH) (by have h:=j0n (k:=0) hu mH rfl;exact h) (j06 (cap:=1) hu (mT mH) rfl ⟨by decide,by decide,rfl,rfl⟩) (by intro x hx;cases mS.1 hx;omega))) hw ?_
   refine qv (v:= .agg (j0E noTot)) rfl (fun u hu=>j0p u (q4Y (j1V _))) hw ?_
   refine j0b<|(so rfl (Nat.le_refl _) (mT (mT mH)) (j2B _ (j0Z noTot_ok.len)) (zTot_size.trans (j0Z noTot_ok.len).symm) (j3G _) ?_)
   refine fun _=>enL fun u6 EX5=>?_
   have Q0:=hD (EnvX.box EX5.out _ _ mH)
   have HBEL:=hD EX5.out.bel
   clear EX5
   go_wp2_with ((with_reducible refine bodyPost_ret (v:= .agg (j0E (noTot))) ?_ ?_ ?_);(exact results_cell_row (p:=2) (ty:=61) results31 _ _ w.heap.size 61 (j0E (noTot)) (0,0) _ rfl Q0.out underlying61 rfl (j2B _ (j0Z noTot_ok.len)));(rfl))
   exact HBEL.out
 · obtain⟨q,z,rfl⟩: ∃q z,p=q++[z]:=by
    rcases List.eq_nil_or_concat p with h|⟨q,z,h⟩
    · subst h;exact absurd hl.symm h0
    · exact⟨q,z,by rw[h,List.concat_eq_append]⟩
   have HRO:Hid (okT (j3M (q++[z]))):=by
    show okT _
    unfold j3M
    rw[List.reverse_append]
    exact x1w _ _ (hI z (mR (mS.2 rfl)))
   have HRT:j3M (q++[z])=upT z q.reverse:=by
    unfold j3M
    rw[List.reverse_append]
    rfl
   have HCL:Hid (∀u,Below w.heap.size w u→Calls Tryz.prog 64 #[.slice A n c] u fun e w'=>(∃v,e= .returned v∧w'.ownsRow u.heap.size 61 37 v n ((q++[z]).map j11).flatten)∧Below u.heap.size u w'):=fun u hb=>j52 (q++[z]) A n c u hl hn hI (hA.up hb)
   have HJL:Hid (∀(v:Value)(N:j0e)(u:World),FreshR 61 37 n ((q++[z]).map j11).flatten v N→j01 w N [(w.heap.size,oc (j0E j3i) 61)]→EnvX w u (N++[(w.heap.size,oc (j0E j3i) 61)])→Calls Tryz.prog 63 #[v, .func (.func 66) #[] #[]] u fun e w''=> ∃x' M',e= .returned x'∧EnvX w w'' M'∧JLeft w [(w.heap.size,oc (j0E j3i) 61)] [j3M (q++[z])] x' M'):=fun v N u hF hn2 hE=>by
    have hlen:q.reverse.length+1=n:=by rw[List.length_reverse,←hl,lA];rfl
    have h:=jlR w [(w.heap.size,oc (j0E j3i) 61)] q.reverse z v N u (fun t ht=>by
      rcases List.mem_cons.1 ht with rfl|h
      · exact hI _ (mR (mS.2 rfl))
      · exact hI t (mL (List.mem_reverse.1 h))) (by rw[hlen];omega) (by
      rw[hlen,List.reverse_cons,List.reverse_reverse]
      exact hF) hn2 hE ht
    rw[x3Q]at h
    rw[HRT]
    exact h
   have h0': ¬(n:Int)=0:=by omega
   clear hI hA hl ht HRT h0
   generalize q++[z]=p at *
   go_enter func31,ntmps31
   go_upto_region 4 with (fail)
   rw[j3R]
   generalize w.alloc (.cells (j0E j3i) 61)=W at *
   refine rgQ [0] [1,2,3,4,5,6] E1 rfl fun hw=>?_
   refine qo rfl hw ?_
   refine j0b<|qr rfl func64 (fun u hu=>j0i (HCL.out u (EnvX.bel hu))) ?_
   rintro x N1 hF hf he2
   have HF:=hD hF
   have HN:=hD hf
   clear hF
   clear hf
   refine phE [2] [3,4,5,6] he2 fun hw=>?_
   refine qo rfl hw ?_
   refine j0b<|(j0X (gd:=none) (R:=JLeft w [(w.heap.size,oc (j0E j3i) 61)] [j3M p]) rfl rfl rfl rfl (fun u hu=>j0D (fid:=63) (xs:= #[.tmp 12, .tmp 13]) (args:= #[x, .func (.func 66) #[] #[]]) rfl func63 rfl rfl u (HJL.out x N1 u HF.out HN.out hu)) ?_)
   rintro x3 M' hJ he4;intro K' hK';go_big_quiet_op;go_big_quiet_on
   obtain⟨N3,rfl,hF3,hn3⟩:=hJ
   obtain⟨gr,cap,cur,rfl,rfl,hcur⟩|⟨_,_,h0,_⟩:=hF3
   case inr=>cases h0
   have HCUR:=hD hcur
   have HGR:=hD (hn3 _ (mS.2 rfl))
   have HLR:Hid (∀u,Row u gr 61 cur→(loadVar 61 ((⟨gr,0,none⟩:Addr).add (0*37))).run Tryz.prog u= .ok (.agg (j0E (j3M p))) u):=fun u hu=>q6i hu HRO.out hcur.2.2.2
   clear hcur hn3
   refine phE [4,5] [6] he4 fun hw=>?_
   refine qv (v:= .pointer (some ((⟨gr,0,none⟩:Addr).add (0*37)))) rfl (fun u hu=>j0h (i:=0) underlying38 aggTot.size (by simp) u rfl rfl) hw ?_
   refine qv rfl (fun u hu=>j0a u (HLR.out u (EnvX.row hu mH)) rfl) hw ?_
   refine j0b<|(so rfl (Nat.le_refl _) (mT mH) (j2B _ (j0Z HRO.out.len)) (zTot_size.trans (j0Z HRO.out.len).symm) (j3G _) ?_)
   refine fun _=>enL fun u8 EX7=>?_
   have Q0:=hD (EnvX.box EX7.out _ _ mH)
   have HBEL:=hD EX7.out.bel
   clear EX7
   go_wp2_with ((with_reducible refine bodyPost_ret (v:= .agg (j0E (j3M p))) ?_ ?_ ?_);(exact results_cell_row (p:=2) (ty:=61) results31 _ _ w.heap.size 61 (j0E (j3M p)) (0,0) _ rfl Q0.out underlying61 rfl (j2B _ (j0Z HRO.out.len)));(rfl))
   exact HBEL.out
theorem q0Z(p:List Tot)(A:Option Addr)(n c:Nat)(h:Hd)(w:World)(hl:p.length=n)(hn:n≤1000000)(hI:okTs p)(hA:TotsIn w w.heap.size A p)(hh:okHd h)(ht:Tables w):
  Calls Tryz.prog 80 #[.slice A n c,hdV h] w fun e w'=>(∃v,e= .returned v∧w'.ownsRow w.heap.size 61 37 v (j1A p (j0C h)).length ((j1A p (j0C h)).map j11).flatten)∧Below w.heap.size w w':=by
 have HL:=hD hh.len
 have HOP:Hid (okTs (j1A p (j0C h))):=q2T hI (j5t _)
 have HID:Hid (Rt w 32 #[hdV h] (idv (idH h))):=fun u hu=>j5p h u hh (ht.below (EnvX.bel hu))
 have HWK:Hid (Rt w 106 #[hdV h] (.agg (wcs (j5c h)))):=fun u hu=>q1i h u hh
 have HLF:Hid (Rt w 105 #[idv (idH h), .agg (wcs (j5c h))] (j3j (j0C h))):=fun u hu=>q0h (idH h) (j5c h) u (j4D h) (j8X h)
 have HAP:Hid (∀u,EnvX w u []→Calls Tryz.prog 30 #[.slice A n c,j3j (j0C h)] u fun e w'=>(∃v,e= .returned v∧w'.ownsRow u.heap.size 61 37 v (j1A p (j0C h)).length (((j1A p (j0C h)).map j11).flatten))∧Below u.heap.size u w'):=fun u hu=>x0V p (j0C h) A n c u hl hn hI (j5t h) (CellsIn.up hA (EnvX.bel hu)) (ht.below (EnvX.bel hu))
 have E1:Hid (EnvX w (w.alloc (.cells (hdA h) 34)) [(w.heap.size,oc (hdA h) 34)]):=(EnvX.start w).new _
 clear hl hn hI hA hh ht
 unfold hdV
 go_enter func80,ntmps80
 go_upto_region 1 with (fail)
 generalize w.alloc (.cells (hdA h) 34)=W at *
 refine rgK [0,1,2,3,4,5] 2 E1 rfl fun hw=>?_
 refine qo rfl hw ?_
 refine ql rfl mH HL.out hw ?_
 refine qc rfl func32 (fun u hu=>HID.out u (nl hu)) hw ?_
 refine ql rfl mH HL.out hw ?_
 refine qc rfl func106 (fun u hu=>HWK.out u (nl hu)) hw ?_
 refine qc rfl func105 (fun u hu=>HLF.out u (nl hu)) hw ?_
 refine j0b<|aO 6 (qr rfl func30 (fun u hu=>j0i (HAP.out u (nl hu))) ?_)
 rintro x N1 hF hf he2
 obtain⟨A1,c1,rfl,-,-⟩:=FreshR.formR hF
 have HF:=hD hF
 have HN:=hD (fun y hy=>(hf y hy).1)
 clear hF
 clear hf
 refine phF [7] 0 rfl he2 fun hw=>?_
 refine qo rfl hw ?_
 refine eH fun u5 EX4=>?_
 have HO:=hD (FreshR.own (w:=u5) (B:=w.heap.size) HF.out (by rw[j2x HOP.out]) (fun y hy=>⟨HN.out y hy,EnvX.box EX4.out _ _ (mL hy)⟩))
 have HBE:=hD (EnvX.bel EX4.out)
 go_wp2
 go_returns
 exact⟨⟨_,rfl,HO.out⟩,HBE.out⟩
theorem j8q(h:Hd)(w:World)(hh:okHd h):
  Rz 100 #[hdV h] w (.bool (decide (h.height<48))):=by
 unfold Rz
 have HL:=hD hh.len
 obtain⟨b,hb⟩: ∃b,decide (h.height<48)=b:=⟨_,rfl⟩
 have C0:=hD hb
 have HF:=hD hb
 have E1:Hid (EnvX w (w.alloc (.cells (hdA h) 34)) [(w.heap.size,oc (hdA h) 34)]):=(EnvX.start w).new _
 clear hh hb
 unfold hdV
 go_enter func100,ntmps100
 go_upto_region 1 with (fail)
 generalize w.alloc (.cells (hdA h) 34)=W at *
 refine rgQ [0,1,2,3] [] E1 rfl fun hw=>?_
 refine qf rfl hw ?_
 refine qv rfl (fun u hu=>j0a u (j0B HL.out (j1a hu mH)).2.1 rfl) hw ?_
 refine qv rfl (fun u hu=>j0o u C0.out rfl rfl) hw ?_
 refine qo rfl hw ?_
 refine enP fun u3 EX2=>?_
 have HBE:=hD (EnvX.bel EX2.out)
 go_wp2
 go_ret
 exact⟨by rw[HF.out];first|done|rfl,HBE.out⟩
theorem x0J:(#[Value.int IntKind.i64 0,Value.int IntKind.u8 0,Value.int IntKind.u8 0,Value.int IntKind.u8 0,Value.int IntKind.u8 0,Value.int IntKind.u8 0,Value.int IntKind.u8 0,Value.int IntKind.u8 0,Value.int IntKind.u8 0,Value.int IntKind.u8 0,Value.int IntKind.u8 0,Value.int IntKind.u8 0,Value.int IntKind.u8 0,Value.int IntKind.u8 0,Value.int IntKind.u8 0,Value.int IntKind.u8 0,Value.int IntKind.u8 0,Value.int IntKind.u8 0,Value.int IntKind.u8 0,Value.int IntKind.u8 0,Value.int IntKind.u8 0,Value.int IntKind.u8 0,Value.int IntKind.u8 0,Value.int IntKind.u8 0,Value.int IntKind.u8 0,Value.int IntKind.u8 0,Value.int IntKind.u8 0,Value.int IntKind.u8 0,Value.int IntKind.u8 0,Value.int IntKind.u8 0,Value.int IntKind.u8 0,Value.int IntKind.u8 0,Value.int IntKind.u8 0,Value.int IntKind.u32 0]:Array Value)=plA j2H:=rfl
theorem q91(h:Hd)(w:World)(hh:okHd h):
  Rz 179 #[hdV h] w (plV h):=by
 unfold Rz
 have HL:=hD hh.len
 have HLE:Hid (w.heap.size≤w.heap.size+1):=by show _≤_;omega
 have E1:Hid (EnvX w ((w.alloc (.cells (hdA h) 34)).alloc (.cells (plA j2H) 195)) [(w.heap.size+1,oc (plA j2H) 195),(w.heap.size,oc (hdA h) 34)]):=(EnvX.start w).two _ _
 clear hh
 unfold hdV plV
 go_enter func179,ntmps179
 go_upto_region 1 with (fail)
 rw[x0J]
 generalize (w.alloc (.cells (hdA h) 34)).alloc (.cells (plA j2H) 195)=W at *
 refine rgQ [0,1,2,3,4,5,6] [7] E1 rfl fun hw=>?_
 refine qf rfl hw ?_
 refine qv rfl (fun u hu=>j0a u (j0B HL.out (j1a hu (mT mH))).2.1 rfl) hw ?_
 refine qf rfl hw ?_
 refine qv rfl (fun u hu=>j0a u (j0B HL.out (j1a hu (mT mH))).2.2.1 rfl) hw ?_
 refine qf rfl hw ?_
 refine qv rfl (fun u hu=>j0a u (j0B HL.out (j1a hu (mT mH))).2.2.2.2.2.2.2.1 rfl) hw ?_
 refine qv (v:= .agg (plA h)) rfl (fun u hu=>j0p u (q9x h HL.out)) hw ?_
 refine j0b<|(so rfl HLE.out mH (x1y _ (j6T HL.out)) ((j6T (h:=j2H) j1k).trans (j6T HL.out).symm) (x3p _) ?_)
 refine fun _=>enL fun u4 EX3=>?_
 have Q0:=hD (EnvX.box EX3.out _ _ mH)
 have HBEL:=hD EX3.out.bel
 clear EX3
 go_wp2_with ((with_reducible refine bodyPost_ret (v:= .agg (plA h)) ?_ ?_ ?_);(exact results_cell_row (p:=2) (ty:=195) results179 _ _ (w.heap.size+1) 195 (plA h) (0,0) _ rfl Q0.out underlying195 rfl (x1y _ (j6T HL.out)));(rfl))
 exact HBEL.out
theorem x0H:roA j2H=zeroCells198:=by kernel_rfl
theorem q9u(h:Hd)(w:World)(hh:okHd h):
  Rz 180 #[hdV h] w (roV h):=by
 unfold Rz
 have HL:=hD hh.len
 have HLE:Hid (w.heap.size≤w.heap.size+1):=by show _≤_;omega
 have E1:Hid (EnvX w ((w.alloc (.cells (hdA h) 34)).alloc (.cells (roA j2H) 198)) [(w.heap.size+1,oc (roA j2H) 198),(w.heap.size,oc (hdA h) 34)]):=(EnvX.start w).two _ _
 clear hh
 unfold hdV roV
 go_enter func180,ntmps180
 go_upto_region 1 with (fail)
 rw[←x0H]
 generalize (w.alloc (.cells (hdA h) 34)).alloc (.cells (roA j2H) 198)=W at *
 refine rgQ [0,1,2,3,4,5,6] [7] E1 rfl fun hw=>?_
 refine qf rfl hw ?_
 refine qv rfl (fun u hu=>j0a u (j0B HL.out (j1a hu (mT mH))).2.2.2.2.1 rfl) hw ?_
 refine qf rfl hw ?_
 refine qv rfl (fun u hu=>j0a u (j0B HL.out (j1a hu (mT mH))).2.2.2.2.2.1 rfl) hw ?_
 refine qf rfl hw ?_
 refine qv rfl (fun u hu=>j0a u (j0B HL.out (j1a hu (mT mH))).2.2.2.2.2.2.1 rfl) hw ?_
 refine qv (v:= .agg (roA h)) rfl (fun u hu=>j0p u (x0X h HL.out)) hw ?_
 refine j0b<|(so rfl HLE.out mH (x1d _ (j6S HL.out)) ((j6S (h:=j2H) j1k).trans (j6S HL.out).symm) (x1U _) ?_)
 refine fun _=>enL fun u4 EX3=>?_
 have Q0:=hD (EnvX.box EX3.out _ _ mH)
 have HBEL:=hD EX3.out.bel
 clear EX3
 go_wp2_with ((with_reducible refine bodyPost_ret (v:= .agg (roA h)) ?_ ?_ ?_);(exact results_cell_row (p:=2) (ty:=198) results180 _ _ (w.heap.size+1) 198 (roA h) (0,0) _ rfl Q0.out underlying198 rfl (x1d _ (j6S HL.out)));(rfl))
 exact HBEL.out
theorem q6l(t:TipM)(l:List TxM)(A:Option Addr)(n c nonce:Nat)(w:World)(kt:TipOk w t)(mt:j3f t)(hl:l.length=n)(hnc:n≤c)(hcm:c≤maxLen)(hA:TxsIn w A l)(ml:j3W l)(hno:nonce<18446744073709551616)(ht:Tables w):j1T 75 #[j29 t, .slice A n c, .int .u64 (nonce:Int)] w (q8I ⟨j05 t.r (rsT l) nonce,j0H t.r,rsT l⟩):=by
 unfold j1T
 have HK:Hid (j0M t.b.h):=kt.b.h.len
 have HOK:Hid (okHd (j05 t.r (rsT l) nonce)):=j9e (rsT l) (t:=t.r) kt.o3 kt.b.h.2.2.2.2.2.2.1 hno
 have HLE:Hid (w.heap.size≤w.heap.size+1):=by show _≤_;omega
 have HRO:Hid (j2z (j3M t.p)):=(q2p kt.o3).len
 have hm1:=kt.l3
 have hm2:=kt.b.l1
 have hm3:=mt.1
 have hm4:=mt.2.1
 have hm5:=ml.1
 have HIX:Hid (j3C (idH t.b.h)):=j4D _
 have HRT:Hid (Rt w 31 #[.slice t.A3 t.n3 t.c3] (j3j (j3M t.p))):=fun u hu=>q1h t.p t.A3 t.n3 t.c3 u kt.l3 (by omega) kt.o3 (CellsIn.up kt.m3 (EnvX.bel hu)) (ht.below (EnvX.bel hu))
 have HID:Hid (Rt w 32 #[hdV t.b.h] (idv (idH t.b.h))):=fun u hu=>j5p t.b.h u kt.b.h (ht.below (EnvX.bel hu))
 have HLV:Hid (Rt w 35 #[hdV t.b.h] (.int .i64 (j1g t.b.h))):=fun u hu=>j6m t.b.h u kt.b.h (ht.below (EnvX.bel hu))
 have HNX:Hid (∀u,EnvX w u []→Calls Tryz.prog 124 #[.slice t.b.A1 t.b.n1 t.b.c1,idv (idH t.b.h), .int .i64 (j1g t.b.h)] u fun e w'=>(∃v,e= .returned v∧w'.ownsRow u.heap.size 26 32 v (j0H t.r).length ((j0H t.r).flatten.map u8v))∧Below u.heap.size u w'):=fun u hu=>q6w t.b.l (idH t.b.h) (j1g t.b.h) t.b.A1 t.b.n1 t.b.c1 u kt.b.l1 (by omega) (q4N _) kt.b.o1 (j4D _) (kt.b.m1.up (EnvX.bel hu))
 have HLR:Hid (∀u A1 c1,(j0H t.r).length≤c1→c1≤maxLen→IdsIn u u.heap.size A1 (j0H t.r)→EnvX w u []→Calls Tryz.prog 34 #[.slice A1 (j0H t.r).length c1] u fun e w'=>e= .returned (idv (j1K (j1x (j0H t.r))))∧Below u.heap.size u w'):=fun u A1 c1 h1 h2 h3 hu=>j8C (j0H t.r) A1 _ c1 u rfl (by have:=j6e t.r;omega) h1 h2 (j8F (t:=t.r) kt.b.o1) h3 (ht.below (EnvX.bel hu))
 have HCR:Hid (Rt w 81 #[.slice A n c] (idv (j1K (j7E (rsT l))))):=fun u hu=>j8H l A n c u hl (by omega) hnc hcm (hA.up (EnvX.bel hu)) (ht.below (EnvX.bel hu))
 have HCX:Hid (∀u,EnvX w u []→j1T 125 #[.slice A n c] u (x2O l n)):=fun u hu=>q3d l A n c u hl (by omega) (hA.up (EnvX.bel hu)) ml.2
 have HLI:Hid (isIds (j0H t.r)):=j8F (t:=t.r) kt.b.o1
 have E1:Hid (EnvX w ((w.alloc (.cells (j0j t) 41)).alloc (.cells (j0L noBlkM) 37)) [(w.heap.size+1,oc (j0L noBlkM) 37),(w.heap.size,oc (j0j t) 41)]):=(EnvX.start w).two _ _
 clear kt mt hl hnc hcm hA ml hno ht hm1 hm2 hm3 hm4 hm5
 unfold j29
 go_enter func75,ntmps75
 go_upto_region 1 with (fail)
 rw[←j4w]
 generalize (w.alloc (.cells (j0j t) 41)).alloc (.cells (j0L noBlkM) 37)=W at *
 refine rgK [0,1,2,3,4,5] 4 E1 rfl fun hw=>?_
 refine qw 2 hw ?_
 refine qv rfl (fun u hu=>j0a u (j0B HK.out (j8K hu (mT mH) HK.out)).1 rfl) hw ?_
 refine qf rfl hw ?_
 refine ql rfl (mT mH) HK.out hw ?_
 refine qc rfl func31 (fun u hu=>HRT.out u (nl hu)) hw ?_
 refine j0b<|j5g (i:=6) (j:=7) (fun _ _ _ hM hh=>q2M _ _ _ hM hh) (by kernel_rfl) (by kernel_rfl) (by kernel_rfl) rfl rfl (by decide) (by kernel_rfl) rfl rfl (fun x N=> ∃g,x= .pointer (some ⟨g,0,none⟩)∧N=[(g,oc (hdA j2H) 34)]) (fun x N=> ∃g,x= .pointer (some ⟨g,0,none⟩)∧N=[(g,oc (j0E j3i) 61)]) [(w.heap.size+1,oc (j0L noBlkM) 37),(w.heap.size,oc (j0j t) 41)] [(w.heap.size+1,oc (j0L noBlkM) 37),(w.heap.size,oc (j0j t) 41)] (fun _ h=>h) (fun _ h=>h) (fun u hu=>j4k (q3A _) u) (fun u hu=>j4k (x1G _) u) ?_
 rintro x1 N1 x2 N2 ⟨g7,rfl,rfl⟩ ⟨g8,rfl,rfl⟩ hf1 hf2 he2 K1 hK1;go_big_quiet_op;go_big_quiet_on;intro K' hK';go_big_quiet_op;go_big_quiet_on
 have HG7:=hD (hf1 _ (mS.2 rfl))
 have HG8:=hD (hf2 _ (mS.2 rfl))
 clear hf1 hf2
 change j1s _ _ _ _ _ _ _ _ [(g8,oc (j0E j3i) 61),(g7,oc (hdA j2H) 34),(w.heap.size+1,oc (j0L noBlkM) 37),(w.heap.size,oc (j0j t) 41)]
 refine aO 8 (j0z rfl (g7) (hdA t.b.h) rfl rfl HG7.out.1 34 ((hdA j2H)) (mT mH) (j6N _ (j1r HK.out)) ((j1r (h:=j2H) j1k).trans (j1r HK.out).symm) (j5r _) [(g7,oc (hdA t.b.h) 34),(g8,oc (j0E j3i) 61),(w.heap.size+1,oc (j0L noBlkM) 37),(w.heap.size,oc (j0j t) 41)] (mA ⟨.inl rfl,mA ⟨.inr ⟨mH,fun h=>HG8.out.2 (g7,oc (hdA j2H) 34) mH h.symm⟩,fun y hy=> .inr ⟨mT (mT hy),HG7.out.2 y hy⟩⟩⟩) ?_)
 intro he3
 refine aO 9 (j0z rfl (g8) (j0E (j3M t.p)) rfl rfl HG8.out.1 61 ((j0E j3i)) (mT mH) (j2B _ (j0Z HRO.out)) (zTot_size.trans (j0Z HRO.out).symm) (j3G _) [(g8,oc (j0E (j3M t.p)) 61),(g7,oc (hdA t.b.h) 34),(w.heap.size+1,oc (j0L noBlkM) 37),(w.heap.size,oc (j0j t) 41)] (mA ⟨.inl rfl,mA ⟨.inr ⟨mH,HG8.out.2 (g7,oc (hdA j2H) 34) mH⟩,fun y hy=> .inr ⟨mT (mT hy),HG8.out.2 y (mT hy)⟩⟩⟩) ?_)
 intro he4
 refine eM fun u6 EX5=>?_
 go_upto_region 2 with (fail)
 refine rgQ [0,1] [2,3] EX5 rfl fun hw=>?_
 refine ql rfl (mT mH) HK.out hw ?_
 refine qc rfl func32 (fun u hu=>HID.out u (nl hu)) hw ?_
 refine j0b<|qn rfl (q0m _) fun g9 HG9 he8=>?_
 change j1E _ _ _ _ _ _ [(g9,oc (j0d 32 []) 26),(g8,oc (j0E (j3M t.p)) 61),(g7,oc (hdA t.b.h) 34),(w.heap.size+1,oc (j0L noBlkM) 37),(w.heap.size,oc (j0j t) 41)]
 refine(sh rfl HG9 (j08 _ (j0c _ _ (by rw[HIX.out.1];omega))) ((j0c _ _ (by simp)).trans (j0c _ _ (by rw[HIX.out.1];omega)).symm) (j0Q _ _) ?_)
 refine fun _=>enL fun u11 EX10=>?_
 go_upto_region 3 with (fail)
 refine rgK [0,1,2,3,4,5] 2 EX10 rfl fun hw=>?_
 refine qw 2 hw ?_
 refine ql rfl (mT (mT (mT (mT mH)))) HK.out hw ?_
 refine qv rfl (fun u hu=>j1f u (j21 hu mH HIX.out.1) rfl) hw ?_
 refine ql rfl (mT (mT mH)) HK.out hw ?_
 refine qc rfl func35 (fun u hu=>HLV.out u (nl hu)) hw ?_
 refine j0b<|aO 6 (qr rfl func124 (fun u hu=>j0i (HNX.out u (nl hu))) ?_)
 rintro x N6 hF hf he13
 obtain⟨A6,c6,rfl,k1,k2⟩:=FreshR.formR hF
 have HF6:=hD (And.intro hF (And.intro k1 k2))
 have HN6:Hid (∀y∈N6,w.heap.size≤y.1∧y.1≠w.heap.size+1):=fun y hy=>⟨(hf y hy).1,fun h=>(hf y hy).2 _ (mT (mT (mT mH))) h.symm⟩
 clear hF k1 k2
 clear hf
 refine phF [7] 0 rfl he13 fun hw=>?_
 refine qo rfl hw ?_
 refine eH fun u16 EX15=>?_
 go_upto_region 4 with (fail)
 refine rgK [0,1,2,3,4,5,6,7,8,9,10,11,12,13,14,15,16,17] 3 EX15 rfl fun hw=>?_
 refine qf rfl hw ?_
 refine qv rfl (fun u hu=>j0a u (j0B HK.out (j1a hu (mR (mT (mT mH))))).2.1 rfl) hw ?_
 refine qv (v:= .int .i64 (j05 t.r (rsT l) nonce).height) rfl (fun u hu=>j3H u (show IntKind.i64.wrap (t.b.h.height+1)=(j05 t.r (rsT l) nonce).height from rfl) rfl rfl) hw ?_
 refine qv rfl (fun u hu=>j1f u (j21 hu (mR mH) HIX.out.1) rfl) hw ?_
 refine qo rfl hw ?_
 refine qc rfl func34 (fun u hu=>HLR.out u A6 c6 HF6.out.2.1 HF6.out.2.2 (j8L HF6.out.1 HLI.out (fun y hy=>EnvX.box hu _ _ (mL hy))) (nl hu)) hw ?_
 refine qo rfl hw ?_
 refine qc rfl func81 (fun u hu=>HCR.out u (nl hu)) hw ?_
 refine qf rfl hw ?_
 refine ql rfl (mR (mT mH)) HRO.out hw ?_
 refine qf rfl hw ?_
 refine ql rfl (mR (mT mH)) HRO.out hw ?_
 refine qf rfl hw ?_
 refine qv rfl (fun u hu=>j0a u (j0B HK.out (j1a hu (mR (mT (mT mH))))).2.2.2.2.2.2.2.1 rfl) hw ?_
 refine qo rfl hw ?_
 refine qv (v:= .agg (hdA (j05 t.r (rsT l) nonce))) rfl (fun u hu=>j0p u (x0e (j05 t.r (rsT l) nonce) HOK.out.len)) hw ?_
 refine qw 2 hw ?_
 refine j0b<|aO 18 (qr rfl func125 (fun u hu=>HCX.out u (nl hu)) ?_)
 rintro x N18 hF hf he18
 obtain⟨q8,A18,c18,rfl,k1,k2,kq,kr,kk⟩:=hF
 have HK1:=hD k1
 have HK2:=hD k2
 have HKQ:=hD kq
 have HKR:=hD kr
 have HKK:=hD kk
 have HN18:Hid (∀y∈N18,w.heap.size≤y.1∧y.1≠w.heap.size+1):=fun y hy=>⟨(hf y hy).1,fun h=>(hf y hy).2 _ (mR (mT (mT (mT mH)))) h.symm⟩
 clear k1 k2 kq kr kk
 clear hf
 refine phF [19] 1 rfl he18 fun hw=>?_
 refine qv (v:= .agg (j0L ⟨(j05 t.r (rsT l) nonce),j0H t.r,A6,(j0H t.r).length,c6,q8,A18,n,c18⟩)) rfl (fun u hu=>j0p u (j7q (b:=⟨(j05 t.r (rsT l) nonce),j0H t.r,A6,(j0H t.r).length,c6,q8,A18,n,c18⟩) HOK.out.len)) hw ?_
 refine j0b<|aO 20 (j0z rfl (w.heap.size+1) (j0L ⟨(j05 t.r (rsT l) nonce),j0H t.r,A6,(j0H t.r).length,c6,q8,A18,n,c18⟩) rfl rfl HLE.out 37 ((j0L noBlkM)) (mR (mR (mT (mT (mT mH))))) (j1J _ (j0O (b:=⟨(j05 t.r (rsT l) nonce),j0H t.r,A6,(j0H t.r).length,c6,q8,A18,n,c18⟩) HOK.out.len)) (j1D (b:=⟨(j05 t.r (rsT l) nonce),j0H t.r,A6,(j0H t.r).length,c6,q8,A18,n,c18⟩) HOK.out.len) (j15 _) ((w.heap.size+1,oc (j0L ⟨(j05 t.r (rsT l) nonce),j0H t.r,A6,(j0H t.r).length,c6,q8,A18,n,c18⟩) 37)::(N18++(N6++[]))) (mA ⟨.inl rfl,fun y hy=> .inr ((List.mem_append.1 hy).elim (fun h=>⟨mL h,(HN18.out y h).2⟩) (fun h=>⟨mR (mL (by simpa using h)),(HN6.out y (by simpa using h)).2⟩))⟩) ?_)
 intro he20
 refine eM fun u22 EX21=>?_
 have HIS:Hid (∀w0 u M,EnvX w0 u M→(∀y∈N18++N6,y∈M)→j5Q ⟨j05 t.r (rsT l) nonce,j0H t.r,rsT l⟩ ⟨(j05 t.r (rsT l) nonce),j0H t.r,A6,(j0H t.r).length,c6,q8,A18,n,c18⟩ u):=fun w0 u M hu hM=>⟨by show BlkR.mk _ _ (rsT q8)=BlkR.mk _ _ (rsT l);rw[HKR.out],⟨HOK.out,rfl,HF6.out.2,HLI.out,j83 HF6.out.1 rfl HLI.out w0 u M hu (fun y hy=>hM y (mR hy)),HKQ.out,⟨HK1.out,HK2.out⟩,HKK.out w0 u M hu (fun y hy=>hM y (mL hy))⟩⟩
 have HBX:Hid (∀y∈N18++N6,y∈((w.heap.size+1,oc (j0L ⟨(j05 t.r (rsT l) nonce),j0H t.r,A6,(j0H t.r).length,c6,q8,A18,n,c18⟩) 37)::(N18++(N6++[])))):=fun y hy=>mT (by simpa using hy)
 have HEX:=hD EX21.out
 have HFR:Hid (∀y∈N18++N6,w.heap.size≤y.1∧u22.heap[y.1]?=some y.2):=fun y hy=>⟨(List.mem_append.1 hy).elim (fun h=>(HN18.out y h).1) (fun h=>(HN6.out y h).1),EnvX.box HEX.out _ _ (HBX.out y hy)⟩
 have Q0:=hD (EnvX.box EX21.out _ _ mH)
 have HBEL:=hD EX21.out.bel
 go_wp2_with ((with_reducible refine bodyPost_ret (v:= .agg (j0L ⟨(j05 t.r (rsT l) nonce),j0H t.r,A6,(j0H t.r).length,c6,q8,A18,n,c18⟩)) ?_ ?_ ?_);(exact results_cell_row (p:=6) (ty:=37) results75 _ _ (w.heap.size+1) 37 (j0L ⟨(j05 t.r (rsT l) nonce),j0H t.r,A6,(j0H t.r).length,c6,q8,A18,n,c18⟩) (0,0) _ rfl Q0.out underlying37 rfl (j1J _ (j0O (b:=⟨(j05 t.r (rsT l) nonce),j0H t.r,A6,(j0H t.r).length,c6,q8,A18,n,c18⟩) HOK.out.len)));(rfl))
 first|exact⟨_,N18++N6,rfl,⟨⟨(j05 t.r (rsT l) nonce),j0H t.r,A6,(j0H t.r).length,c6,q8,A18,n,c18⟩,rfl,HIS.out,_,HIS.out _ _ _ HEX.out HBX.out⟩,HBEL.out,HFR.out⟩|exact⟨N18++N6,⟨⟨(j05 t.r (rsT l) nonce),j0H t.r,A6,(j0H t.r).length,c6,q8,A18,n,c18⟩,rfl,HIS.out,_,HIS.out _ _ _ HEX.out HBX.out⟩,HBEL.out,fun a b hy=>HFR.out (a,b) hy⟩
def x2h:Nat→FuncId
  |0=>126
  |1=>127
  |2=>128
  |3=>129
  |_=>130
def x3k:Nat→Int
  |0=>3
  |1=>5
  |2=>6
  |3=>7
  |_=>4
def q4s(i:Nat):List Value:=[.func (.func (x2h i)) #[] #[], .int .i64 (x3k i)]
def j20(i:Nat):Array Value:=(q4s i).toArray
def rulesC:List Value:=q4s 0++(q4s 1++(q4s 2++(q4s 3++q4s 4)))
def rulesA:Array Value:=rulesC.toArray
theorem aggRS:AggT 157 2:=⟨fun w=>by simp[isAgg,run_underlying underlying157],by kernel_rfl⟩
theorem aggRA:AggT 158 10:=⟨fun w=>by simp[isAgg,run_underlying underlying158],by kernel_rfl⟩
theorem q1j(cs:Array Value)(h:cs.size=2):(Tryz.prog.info? 157).map (·.size)=some cs.size:=by rw[h];exact aggRS.size
theorem x4b(cs:Array Value)(h:cs.size=10):(Tryz.prog.info? 158).map (·.size)=some cs.size:=by rw[h];exact aggRA.size
theorem x4B: ∀w,(isAgg 156).run Tryz.prog w= .ok false w:=fun w=>by simp[isAgg,run_underlying underlying156]
theorem x4G: ∀w,(isAgg 42).run Tryz.prog w= .ok false w:=fun w=>by simp[isAgg,run_underlying underlying42]
theorem j5C(f:FuncId)(k:Int):Tryz.prog.built 157 [(0, .func (.func f) #[] #[]),(1, .int .i64 k)]=some #[.func (.func f) #[] #[], .int .i64 k]:=by kernel_rfl
theorem q9A:Tryz.prog.built 158 [(0, .agg (j20 0)),(1, .agg (j20 1)),(2, .agg (j20 2)),(3, .agg (j20 3)),(4, .agg (j20 4))]=some rulesA:=by kernel_rfl
theorem q4a:rulesA.all (·.oneCell')=true:=by kernel_rfl
theorem j4K(i:Nat):(j20 i).all (·.oneCell')=true:=by
 rcases i with _|_|_|_|i
 all_goals kernel_rfl
def j71:Array Value:= #[.nilFunc, .int .i64 0]
def q1X:Array Value:= #[.nilFunc, .int .i64 0, .nilFunc, .int .i64 0, .nilFunc, .int .i64 0, .nilFunc, .int .i64 0, .nilFunc, .int .i64 0]
section
variable {dst:Option Tmp}{ty:TypeId}{pos:String}{after:Array Edge}{gd:Option (Nat × Bool)}
theorem x36(a:Act):j3r Tryz.prog ⟨dst, .alloc 158,ty,pos,after,gd⟩ a (.cells q1X 158 (0,0)):=fun u=>by
 unfold q1X
 go_simp
theorem j9W(a:Act):j3r Tryz.prog ⟨dst, .alloc 157,ty,pos,after,gd⟩ a (.cells j71 157 (0,0)):=fun u=>by
 unfold j71
 go_simp
end
theorem q9H{i:Nat}(h:i<5)(w:World):(Instr.index 158 (.agg rulesA) (.int .i64 (i:Int))).run Tryz.prog w= .ok (.agg (j20 i)) w:=by
 rcases i with _|_|_|_|_|i
 all_goals first|omega|kernel_rfl
section
variable {a:Act}{dst:Option Tmp}{x y:Operand}{ty:TypeId}{pos:String}{after:Array Edge}{gd:Option (Nat × Bool)}
theorem j5J{i:Nat}(h:i<5)(u:World)(hx:a.eval x= .agg rulesA)(hy:a.eval y= .int .i64 (i:Int)):
  (execOp a.eval ⟨dst, .index 158 x y,ty,pos,after,gd⟩).run Tryz.prog u= .ok (.value (.agg (j20 i))) u:=by
 unfold execOp
 simp only[hx,hy,Sem.run_bind,q9H h u,Result.andThen_ok,Sem.run_pure]
theorem j1o{k:Nat}(hk:k<2){ad:Addr}(u:World)(hx:a.eval x= .pointer (some ad)):
  (execOp a.eval ⟨dst, .fieldAddr 157 x k,ty,pos,after,gd⟩).run Tryz.prog u= .ok (.value (.pointer (some (ad.add k)))) u:=by
 unfold execOp
 simp only[hx]
 rcases k with _|_|k
 all_goals first|omega|go_simp
end
section
variable {w0 u:World}{M:j0e}{g i:Nat}{ty:TypeId}
theorem x31(hu:EnvC w0 M u)(hm:(g,oc rulesA ty)∈M):(loadVar 158 ⟨g,0,none⟩).run Tryz.prog u= .ok (.agg rulesA) u:=j0F aggRA rulesC rfl (j1a hu hm)
instance:Cell Tryz.prog rulesA 158 0 (.agg rulesA) (True):=⟨fun hu hm k=>x31 hu hm⟩
theorem j3y(hu:EnvC w0 M u)(hm:(g,oc (j20 i) ty)∈M):(loadVar 156 ⟨g,0,none⟩).run Tryz.prog u= .ok (.func (.func (x2h i)) #[] #[]) u:=j0f x4B u (j0n hu hm rfl)
instance:Cell Tryz.prog (j20 i) 156 0 (.func (.func (x2h i)) #[] #[]) (True):=⟨fun hu hm k=>j3y hu hm⟩
theorem j51(hu:EnvC w0 M u)(hm:(g,oc (j20 i) ty)∈M):(loadVar 42 ⟨g,1,none⟩).run Tryz.prog u= .ok (.int .i64 (x3k i)) u:=j0f x4G u (j0n hu hm rfl)
instance:Cell Tryz.prog (j20 i) 42 1 (.int .i64 (x3k i)) (True):=⟨fun hu hm k=>j51 hu hm⟩
end
theorem x0Z(b d:BlkM)(w:World)(hb:okHd b.h)(hd:okHd d.h):
  Rz 126 #[trV b d] w (.bool (decide (b.h.height<48))):=by
 unfold Rz
 have HB:=hD hb
 have HD:=hD hd
 have HMH:Hid (Rt w 100 #[hdV b.h] (.bool (decide (b.h.height<48)))):=fun u hu=>j8q b.h u hb
 obtain⟨x,hx⟩: ∃x,decide (b.h.height<48)=x:=⟨_,rfl⟩
 have HF:=hD hx
 rw[hx]at HMH
 have E1:Hid (EnvX w (w.alloc (.cells (trA b d) 112)) [(w.heap.size,oc (trA b d) 112)]):=(EnvX.start w).new _
 clear hb hd hx
 unfold trV
 go_enter func126,ntmps126
 go_upto_region 1 with (fail)
 generalize w.alloc (.cells (trA b d) 112)=W at *
 refine rgQ [0,1,2,3,4] [] E1 rfl fun hw=>?_
 refine qw 2 hw ?_
 refine qv rfl (fun u hu=>j0a u (j0B HB.out.len (q7T hu mH HB.out.len)).1 rfl) hw ?_
 refine qc rfl func100 (fun u hu=>HMH.out u (nl hu)) hw ?_
 refine qo rfl hw ?_
 refine enP fun u3 EX2=>?_
 have HBE:=hD (EnvX.bel EX2.out)
 go_wp2
 go_ret
 exact⟨by rw[HF.out];first|done|rfl,HBE.out⟩
theorem q7U(b d:BlkM)(w:World)(hb:okHd b.h)(hd:okHd d.h):
  Rz 127 #[trV b d] w (.bool (j9K b.h d.h)):=by
 unfold Rz
 have HB:=hD hb
 have HD:=hD hd
 have HP:Hid (∀u,EnvX w u []→ ∀h:Hd,okHd h→Calls Tryz.prog 179 #[hdV h] u fun e w'=>e= .returned (plV h)∧Below u.heap.size u w'):=fun u hu h hh=>q91 h u hh
 obtain⟨x,hx⟩: ∃x,j9K b.h d.h=x:=⟨_,rfl⟩
 have HF:=hD hx
 have HX:=hD hx
 have E1:Hid (EnvX w (w.alloc (.cells (trA b d) 112)) [(w.heap.size,oc (trA b d) 112)]):=(EnvX.start w).new _
 clear hb hd hx
 unfold trV
 go_enter func127,ntmps127
 go_upto_region 1 with (fail)
 generalize w.alloc (.cells (trA b d) 112)=W at *
 refine rgK [0,1,2,3,4,5,6,7,8,9] 0 E1 rfl fun hw=>?_
 refine qw 2 hw ?_
 refine qv rfl (fun u hu=>j0a u (j0B HB.out.len (q7T hu mH HB.out.len)).1 rfl) hw ?_
 refine qc rfl func179 (fun u hu=>HP.out u (nl hu) b.h HB.out) hw ?_
 refine qf rfl hw ?_
 refine qf (o2:=137) rfl hw ?_
 refine qv rfl (fun u hu=>j0a u (j0B HD.out.len (q1z hu mH HB.out.len HD.out.len)).1 rfl) hw ?_
 refine qc rfl func179 (fun u hu=>HP.out u (nl hu) d.h HD.out) hw ?_
 refine qv rfl (fun u hu=>q9I HB.out HD.out HX.out u rfl rfl) hw ?_
 refine qo rfl hw ?_
 refine eH fun u3 EX2=>?_
 have HBE:=hD (EnvX.bel EX2.out)
 go_wp2
 go_ret
 exact⟨by rw[HF.out];first|done|rfl,HBE.out⟩
theorem q7k(b d:BlkM)(w:World)(hb:okHd b.h)(hd:okHd d.h):
  Rz 129 #[trV b d] w (.bool (j9N b.h d.h)):=by
 unfold Rz
 have HB:=hD hb
 have HD:=hD hd
 have HP:Hid (∀u,EnvX w u []→ ∀h:Hd,okHd h→Calls Tryz.prog 180 #[hdV h] u fun e w'=>e= .returned (roV h)∧Below u.heap.size u w'):=fun u hu h hh=>q9u h u hh
 obtain⟨x,hx⟩: ∃x,j9N b.h d.h=x:=⟨_,rfl⟩
 have HF:=hD hx
 have HX:=hD hx
 have E1:Hid (EnvX w (w.alloc (.cells (trA b d) 112)) [(w.heap.size,oc (trA b d) 112)]):=(EnvX.start w).new _
 clear hb hd hx
 unfold trV
 go_enter func129,ntmps129
 go_upto_region 1 with (fail)
 generalize w.alloc (.cells (trA b d) 112)=W at *
 refine rgK [0,1,2,3,4,5,6,7,8,9] 0 E1 rfl fun hw=>?_
 refine qw 2 hw ?_
 refine qv rfl (fun u hu=>j0a u (j0B HB.out.len (q7T hu mH HB.out.len)).1 rfl) hw ?_
 refine qc rfl func180 (fun u hu=>HP.out u (nl hu) b.h HB.out) hw ?_
 refine qf rfl hw ?_
 refine qf (o2:=137) rfl hw ?_
 refine qv rfl (fun u hu=>j0a u (j0B HD.out.len (q1z hu mH HB.out.len HD.out.len)).1 rfl) hw ?_
 refine qc rfl func180 (fun u hu=>HP.out u (nl hu) d.h HD.out) hw ?_
 refine qv rfl (fun u hu=>q8N HB.out HD.out HX.out u rfl rfl) hw ?_
 refine qo rfl hw ?_
 refine eH fun u3 EX2=>?_
 have HBE:=hD (EnvX.bel EX2.out)
 go_wp2
 go_ret
 exact⟨by rw[HF.out];first|done|rfl,HBE.out⟩
theorem q9C(b d:BlkM)(w:World)(hb:okHd b.h)(hd:okHd d.h)(ht:Tables w):
  Rz 130 #[trV b d] w (.bool (j4U b.h)):=by
 unfold Rz
 have HB:=hD hb
 have HD:=hD hd
 have HMH:Hid (Rt w 155 #[hdV b.h] (.bool (j4U b.h))):=fun u hu=>q3n b.h u hb (ht.below (EnvX.bel hu))
 obtain⟨x,hx⟩: ∃x,j4U b.h=x:=⟨_,rfl⟩
 have HF:=hD hx
 rw[hx]at HMH
 have E1:Hid (EnvX w (w.alloc (.cells (trA b d) 112)) [(w.heap.size,oc (trA b d) 112)]):=(EnvX.start w).new _
 clear hb hd hx ht
 unfold trV
 go_enter func130,ntmps130
 go_upto_region 1 with (fail)
 generalize w.alloc (.cells (trA b d) 112)=W at *
 refine rgQ [0,1,2,3,4] [] E1 rfl fun hw=>?_
 refine qw 2 hw ?_
 refine qv rfl (fun u hu=>j0a u (j0B HB.out.len (q7T hu mH HB.out.len)).1 rfl) hw ?_
 refine qc rfl func155 (fun u hu=>HMH.out u (nl hu)) hw ?_
 refine qo rfl hw ?_
 refine enP fun u3 EX2=>?_
 have HBE:=hD (EnvX.bel EX2.out)
 go_wp2
 go_ret
 exact⟨by rw[HF.out];first|done|rfl,HBE.out⟩
theorem q8F(b d:BlkM)(w:World)(hb:okHd b.h)(hd:okHd d.h)(hl1:b.l.length=b.n1)(hl2:d.l.length=d.n1)(hc1:b.n1≤b.c1∧b.c1≤maxLen)(hc2:d.n1≤d.c1∧d.c1≤maxLen)(hi1:isIds b.l)(hi2:isIds d.l)(hn1:b.n1≤1000000)(hn2:d.n1≤1000000)(hA1:IdsIn w w.heap.size b.A1 b.l)(hA2:IdsIn w w.heap.size d.A1 d.l):
  Rz 128 #[trV b d] w (.bool (decide (b.l=d.l) && eqL b.h.links d.h.links)):=by
 unfold Rz
 have HB:=hD hb
 have HD:=hD hd
 have HEQ:Hid (Rt w 82 #[.slice b.A1 b.n1 b.c1, .slice d.A1 d.n1 d.c1] (.bool (decide (b.l=d.l)))):=fun u hu=>x1g b.l d.l b.A1 d.A1 b.n1 b.c1 d.n1 d.c1 u hl1 hl2 hn1 hn2 hc1.1 hc1.2 hc2.1 hc2.2 hi1 hi2 (hA1.up (EnvX.bel hu)) (hA2.up (EnvX.bel hu))
 obtain⟨x,hx⟩: ∃x,decide (b.l=d.l)=x:=⟨_,rfl⟩
 obtain⟨y,hy⟩: ∃y,eqL b.h.links d.h.links=y:=⟨_,rfl⟩
 have HX:=hD hx
 have HY:=hD hy
 rw[hx]at HEQ
 have E1:Hid (EnvX w (w.alloc (.cells (trA b d) 112)) [(w.heap.size,oc (trA b d) 112)]):=(EnvX.start w).new _
 clear hb hd hl1 hl2 hc1 hc2 hi1 hi2 hn1 hn2 hA1 hA2 hx hy
 unfold trV
 go_enter func128,ntmps128
 go_upto_region 1 with (fail)
 generalize w.alloc (.cells (trA b d) 112)=W at *
 cases x with
 |false=>
  have HF:Hid ((decide (b.l=d.l) && eqL b.h.links d.h.links)=false):=by show _=_;rw[HX.out,HY.out];rfl
  refine rgQ [0,1,2,3,4,5,6,7,8,9,10,11,12,13,14,15,16,17,18] [] E1 rfl fun hw=>?_
  refine qw 2 hw ?_
  refine qv rfl (fun u hu=>j0a u (x4M hu mH HB.out.len) rfl) hw ?_
  refine qf rfl hw ?_
  refine qf (o2:=272) rfl hw ?_
  refine qv rfl (fun u hu=>j0a u (x1b hu mH HB.out.len HD.out.len) rfl) hw ?_
  refine qc rfl func82 (fun u hu=>HEQ.out u (nl hu)) hw ?_
  refine qw 12 hw ?_
  refine enP fun u3 EX2=>?_
  have HBE:=hD (EnvX.bel EX2.out)
  go_wp2
  go_ret
  exact⟨by rw[HF.out];first|done|rfl,HBE.out⟩
 |true=>
  have HF:Hid ((decide (b.l=d.l) && eqL b.h.links d.h.links)=y):=by show _=_;rw[HX.out,HY.out];rfl
  refine rgQ [0,1,2,3,4,5,6,7,8,9,10,11,12,13,14,15,16,17,18] [] E1 rfl fun hw=>?_
  refine qw 2 hw ?_
  refine qv rfl (fun u hu=>j0a u (x4M hu mH HB.out.len) rfl) hw ?_
  refine qf rfl hw ?_
  refine qf (o2:=272) rfl hw ?_
  refine qv rfl (fun u hu=>j0a u (x1b hu mH HB.out.len HD.out.len) rfl) hw ?_
  refine qc rfl func82 (fun u hu=>HEQ.out u (nl hu)) hw ?_
  refine qw 4 hw ?_
  refine qv rfl (fun u hu=>j0a u (j0B HB.out.len (q7T hu mH HB.out.len)).2.2.2.1 rfl) hw ?_
  refine qf rfl hw ?_
  refine qf (o2:=137) rfl hw ?_
  refine qf (o2:=170) rfl hw ?_
  refine qv rfl (fun u hu=>j0a u (j0B HD.out.len (q1z hu mH HB.out.len HD.out.len)).2.2.2.1 rfl) hw ?_
  refine qv rfl (fun u hu=>j6n HB.out.len.2.1 HD.out.len.2.1 HY.out u rfl rfl) hw ?_
  refine qw 2 hw ?_
  refine enP fun u3 EX2=>?_
  have HBE:=hD (EnvX.bel EX2.out)
  go_wp2
  go_ret
  exact⟨by rw[HF.out];first|done|rfl,HBE.out⟩
def FK(x0 x1 x2 x3 x4:Bool):Nat:=if x0=false then 3 else if x1=false then 5 else if x2=false then 6 else if x3=false then 7 else if x4=false then 4 else 0
theorem x3O(b d:BlkM)(w:World)(hb:okHd b.h)(hd:okHd d.h)(hl1:b.l.length=b.n1)(hl2:d.l.length=d.n1)(hc1:b.n1≤b.c1∧b.c1≤maxLen)(hc2:d.n1≤d.c1∧d.c1≤maxLen)(hi1:isIds b.l)(hi2:isIds d.l)(hn1:b.n1≤1000000)(hn2:d.n1≤1000000)(hA1:IdsIn w w.heap.size b.A1 b.l)(hA2:IdsIn w w.heap.size d.A1 d.l)(ht:Tables w):
  Rz 76 #[trV b d] w (.int .i64 (FK (decide (b.h.height<48)) (j9K b.h d.h) (decide (b.l=d.l) && eqL b.h.links d.h.links) (j9N b.h d.h) (j4U b.h):Int)):=by
 unfold Rz
 have HB:=hD hb
 have HD:=hD hd
 have HC0:Hid (Rt w 126 #[trV b d] (.bool (decide (b.h.height<48)))):=fun u hu=>x0Z b d u hb hd
 have HC1:Hid (Rt w 127 #[trV b d] (.bool (j9K b.h d.h))):=fun u hu=>q7U b d u hb hd
 have HC2:Hid (Rt w 128 #[trV b d] (.bool (decide (b.l=d.l) && eqL b.h.links d.h.links))):=fun u hu=>q8F b d u hb hd hl1 hl2 hc1 hc2 hi1 hi2 hn1 hn2 (hA1.up (EnvX.bel hu)) (hA2.up (EnvX.bel hu))
 have HC3:Hid (Rt w 129 #[trV b d] (.bool (j9N b.h d.h))):=fun u hu=>q7k b d u hb hd
 have HC4:Hid (Rt w 130 #[trV b d] (.bool (j4U b.h))):=fun u hu=>q9C b d u hb hd (ht.below (EnvX.bel hu))
 obtain⟨x0,hx0⟩: ∃x,(decide (b.h.height<48))=x:=⟨_,rfl⟩
 rw[hx0]at HC0 ⊢
 obtain⟨x1,hx1⟩: ∃x,(j9K b.h d.h)=x:=⟨_,rfl⟩
 rw[hx1]at HC1 ⊢
 obtain⟨x2,hx2⟩: ∃x,(decide (b.l=d.l) && eqL b.h.links d.h.links)=x:=⟨_,rfl⟩
 rw[hx2]at HC2 ⊢
 obtain⟨x3,hx3⟩: ∃x,(j9N b.h d.h)=x:=⟨_,rfl⟩
 rw[hx3]at HC3 ⊢
 obtain⟨x4,hx4⟩: ∃x,(j4U b.h)=x:=⟨_,rfl⟩
 rw[hx4]at HC4 ⊢
 have E1:Hid (EnvX w (w.alloc (.cells (trA b d) 112)) [(w.heap.size,oc (trA b d) 112)]):=(EnvX.start w).new _
 clear hb hd hl1 hl2 hc1 hc2 hi1 hi2 hn1 hn2 hA1 hA2 ht hx0 hx1 hx2 hx3 hx4
 unfold trV at *
 go_enter func76,ntmps76
 go_upto_region 1 with (fail)
 generalize w.alloc (.cells (trA b d) 112)=W at *
 refine rgQ [0,1,2,3,4,5] [6,7] E1 rfl fun hw=>?_
 refine qv (v:= .agg (j20 0)) rfl (fun u hu=>j0p u (j5C _ _)) hw ?_
 refine qv (v:= .agg (j20 1)) rfl (fun u hu=>j0p u (j5C _ _)) hw ?_
 refine qv (v:= .agg (j20 2)) rfl (fun u hu=>j0p u (j5C _ _)) hw ?_
 refine qv (v:= .agg (j20 3)) rfl (fun u hu=>j0p u (j5C _ _)) hw ?_
 refine qv (v:= .agg (j20 4)) rfl (fun u hu=>j0p u (j5C _ _)) hw ?_
 refine qv (v:= .agg rulesA) rfl (fun u hu=>j0p u q9A) hw ?_
 refine j0b<|qn rfl (x36 _) fun g3 HG3 he2=>?_
 change j1E _ _ _ _ _ _ [(g3,oc q1X 158),(w.heap.size,oc (trA b d) 112)]
 refine(sh (cs:=rulesA) rfl HG3 (x4b _ rfl) rfl q4a ?_)
 refine fun _=>enL fun u5 EX4=>?_
 go_upto_region 2 with (fail)
 refine rgQ [0,1] [] EX4 rfl fun hw=>?_
 refine ql rfl mH trivial hw ?_
 refine qo rfl hw ?_
 refine enP fun u8 EX7=>?_
 have EJ:=hD EX7.out
 clear EX7 E1
 go_upto_region 3 with (fail)
 go_loopw [13] (fun iv u=> ∃i:Nat,i≤5∧iv= .int .i64 (i:Int)∧Hid (((0<i→x0=true)∧(1<i→x1=true)∧(2<i→x2=true)∧(3<i→x3=true)∧(4<i→x4=true))∧EnvX w u [(g3,oc (rulesA) 158),(w.heap.size,oc (trA b d) 112)])) (fun iv _=>5- (intOf iv).toNat)
 case atStart=>exact⟨0,by omega,rfl,⟨fun h=>absurd h (by omega),fun h=>absurd h (by omega),fun h=>absurd h (by omega),fun h=>absurd h (by omega),fun h=>absurd h (by omega)⟩,EJ.out⟩
 case round=>
  obtain⟨i,hi,rfl,hinv⟩:=hrel
  have EK:=hD hinv.out.2
  have HX:=hD hinv.out.1
  clear hinv EJ
  have hcs:i=0∨i=1∨i=2∨i=3∨i=4∨i=5:=by omega
  clear hi
  rcases hcs with rfl|rfl|rfl|rfl|rfl|rfl
  · have C2:Hid (decide (((0:Nat):Int)<5)=true):=by show _=_;decide
    go_upto_region 3 with (fail)
    refine rgQ [0] [] EK rfl fun hw=>?_
    refine qv rfl (fun u hu=>j0o u C2.out rfl rfl) hw ?_
    refine enP fun u103 EX102=>?_
    go_upto_region 4 with (fail)
    refine rgQ [0] [1,2] EX102 rfl fun hw=>?_
    refine qv (v:= .agg (j20 0)) rfl (fun u hu=>j5J (i:=0) (by decide) u rfl rfl) hw ?_
    refine j0b<|qn rfl (j9W _) fun g5 HG5 he105=>?_
    change j1E _ _ _ _ _ _ [(g5,oc j71 157),(g3,oc (rulesA) 158),(w.heap.size,oc (trA b d) 112)]
    refine(sh (cs:=j20 0) rfl HG5 (q1j _ rfl) rfl (j4K _) ?_)
    refine fun _=>enL fun u108 EX107=>?_
    cases x0 with
    |false=>
     go_upto_region 5 with (fail)
     refine rgP [0,1,2,3,4] [] EX107 rfl ?_;intro hw109 hone
     refine qv (v:= .pointer (some ⟨g5,0,none⟩)) rfl (fun u hu=>j1o (k:=0) (by decide) (ad:=⟨g5,0,none⟩) u rfl) ⟨_,hw109⟩ ?_
     refine qv rfl (fun u hu=>j0a u (j3y (i:=0) hu mH) rfl) ⟨_,hw109⟩ ?_
     refine qv rfl (fun u hu=>j0a u (j4L hu (mT (mT mH)) HB.out.len HD.out.len) rfl) ⟨_,hw109⟩ ?_
     (refine j0I (f:=126) (args:= #[.agg (trA b d)]) (caps:= #[]) (all:= #[.agg (trA b d)]) (v:= .bool false) rfl rfl rfl rfl rfl func126 rfl rfl (fun u hu=>HC0.out u (nl hu)) ?_ hw109;intro K hK;go_big_quiet_op;go_big_quiet_on)
     refine qo rfl ⟨_,hw109⟩ ?_
     clear hone hw109;refine enP fun u111 EX110=>?_
     go_upto_region 6 with (fail)
     refine rgQ [0,1,2] [] EX110 rfl fun hw=>?_
     refine qv (v:= .pointer (some ⟨g5,1,none⟩)) rfl (fun u hu=>j1o (k:=1) (by decide) (ad:=⟨g5,0,none⟩) u rfl) hw ?_
     refine qv rfl (fun u hu=>j0a u (j51 (i:=0) hu mH) rfl) hw ?_
     refine qo rfl hw ?_
     refine enP fun u114 EX113=>?_
     have HBE:=hD (EnvX.bel EX113.out)
     go_wp2
     go_ret
     exact⟨rfl,HBE.out⟩
    |true=>
     go_upto_region 5 with (fail)
     refine rgP [0,1,2,3,4] [] EX107 rfl ?_;intro hw109 hone
     refine qv (v:= .pointer (some ⟨g5,0,none⟩)) rfl (fun u hu=>j1o (k:=0) (by decide) (ad:=⟨g5,0,none⟩) u rfl) ⟨_,hw109⟩ ?_
     refine qv rfl (fun u hu=>j0a u (j3y (i:=0) hu mH) rfl) ⟨_,hw109⟩ ?_
     refine qv rfl (fun u hu=>j0a u (j4L hu (mT (mT mH)) HB.out.len HD.out.len) rfl) ⟨_,hw109⟩ ?_
     (refine j0I (f:=126) (args:= #[.agg (trA b d)]) (caps:= #[]) (all:= #[.agg (trA b d)]) (v:= .bool true) rfl rfl rfl rfl rfl func126 rfl rfl (fun u hu=>HC0.out u (nl hu)) ?_ hw109;intro K hK;go_big_quiet_op;go_big_quiet_on)
     refine qo rfl ⟨_,hw109⟩ ?_
     clear hone hw109;refine enP fun u111 EX110=>?_
     go_wp2
     go_roundw
     case rel=>exact⟨1,by omega,by go_num,⟨(fun _=>by simp),(fun h=>absurd h (by omega)),(fun h=>absurd h (by omega)),(fun h=>absurd h (by omega)),(fun h=>absurd h (by omega))⟩,EX110.out.sub (fun _ h=>mT h)⟩
     case measure=>simp[intOf]
  · have C2:Hid (decide (((1:Nat):Int)<5)=true):=by show _=_;decide
    obtain rfl:x0=true:=HX.out.1 (by omega)
    go_upto_region 3 with (fail)
    refine rgQ [0] [] EK rfl fun hw=>?_
    refine qv rfl (fun u hu=>j0o u C2.out rfl rfl) hw ?_
    refine enP fun u203 EX202=>?_
    go_upto_region 4 with (fail)
    refine rgQ [0] [1,2] EX202 rfl fun hw=>?_
    refine qv (v:= .agg (j20 1)) rfl (fun u hu=>j5J (i:=1) (by decide) u rfl rfl) hw ?_
    refine j0b<|qn rfl (j9W _) fun g5 HG5 he205=>?_
    change j1E _ _ _ _ _ _ [(g5,oc j71 157),(g3,oc (rulesA) 158),(w.heap.size,oc (trA b d) 112)]
    refine(sh (cs:=j20 1) rfl HG5 (q1j _ rfl) rfl (j4K _) ?_)
    refine fun _=>enL fun u208 EX207=>?_
    cases x1 with
    |false=>
     go_upto_region 5 with (fail)
     refine rgP [0,1,2,3,4] [] EX207 rfl ?_;intro hw209 hone
     refine qv (v:= .pointer (some ⟨g5,0,none⟩)) rfl (fun u hu=>j1o (k:=0) (by decide) (ad:=⟨g5,0,none⟩) u rfl) ⟨_,hw209⟩ ?_
     refine qv rfl (fun u hu=>j0a u (j3y (i:=1) hu mH) rfl) ⟨_,hw209⟩ ?_
     refine qv rfl (fun u hu=>j0a u (j4L hu (mT (mT mH)) HB.out.len HD.out.len) rfl) ⟨_,hw209⟩ ?_
     (refine j0I (f:=127) (args:= #[.agg (trA b d)]) (caps:= #[]) (all:= #[.agg (trA b d)]) (v:= .bool false) rfl rfl rfl rfl rfl func127 rfl rfl (fun u hu=>HC1.out u (nl hu)) ?_ hw209;intro K hK;go_big_quiet_op;go_big_quiet_on)
     refine qo rfl ⟨_,hw209⟩ ?_
     clear hone hw209;refine enP fun u211 EX210=>?_
     go_upto_region 6 with (fail)
     refine rgQ [0,1,2] [] EX210 rfl fun hw=>?_
     refine qv (v:= .pointer (some ⟨g5,1,none⟩)) rfl (fun u hu=>j1o (k:=1) (by decide) (ad:=⟨g5,0,none⟩) u rfl) hw ?_
     refine qv rfl (fun u hu=>j0a u (j51 (i:=1) hu mH) rfl) hw ?_
     refine qo rfl hw ?_
     refine enP fun u214 EX213=>?_
     have HBE:=hD (EnvX.bel EX213.out)
     go_wp2
     go_ret
     exact⟨rfl,HBE.out⟩
    |true=>
     go_upto_region 5 with (fail)
     refine rgP [0,1,2,3,4] [] EX207 rfl ?_;intro hw209 hone
     refine qv (v:= .pointer (some ⟨g5,0,none⟩)) rfl (fun u hu=>j1o (k:=0) (by decide) (ad:=⟨g5,0,none⟩) u rfl) ⟨_,hw209⟩ ?_
     refine qv rfl (fun u hu=>j0a u (j3y (i:=1) hu mH) rfl) ⟨_,hw209⟩ ?_
     refine qv rfl (fun u hu=>j0a u (j4L hu (mT (mT mH)) HB.out.len HD.out.len) rfl) ⟨_,hw209⟩ ?_
     (refine j0I (f:=127) (args:= #[.agg (trA b d)]) (caps:= #[]) (all:= #[.agg (trA b d)]) (v:= .bool true) rfl rfl rfl rfl rfl func127 rfl rfl (fun u hu=>HC1.out u (nl hu)) ?_ hw209;intro K hK;go_big_quiet_op;go_big_quiet_on)
     refine qo rfl ⟨_,hw209⟩ ?_
     clear hone hw209;refine enP fun u211 EX210=>?_
     go_wp2
     go_roundw
     case rel=>exact⟨2,by omega,by go_num,⟨(fun _=>by simp),(fun _=>by simp),(fun h=>absurd h (by omega)),(fun h=>absurd h (by omega)),(fun h=>absurd h (by omega))⟩,EX210.out.sub (fun _ h=>mT h)⟩
     case measure=>simp[intOf]
  · have C2:Hid (decide (((2:Nat):Int)<5)=true):=by show _=_;decide
    obtain rfl:x0=true:=HX.out.1 (by omega)
    obtain rfl:x1=true:=HX.out.2.1 (by omega)
    go_upto_region 3 with (fail)
    refine rgQ [0] [] EK rfl fun hw=>?_
    refine qv rfl (fun u hu=>j0o u C2.out rfl rfl) hw ?_
    refine enP fun u303 EX302=>?_
    go_upto_region 4 with (fail)
    refine rgQ [0] [1,2] EX302 rfl fun hw=>?_
    refine qv (v:= .agg (j20 2)) rfl (fun u hu=>j5J (i:=2) (by decide) u rfl rfl) hw ?_
    refine j0b<|qn rfl (j9W _) fun g5 HG5 he305=>?_
    change j1E _ _ _ _ _ _ [(g5,oc j71 157),(g3,oc (rulesA) 158),(w.heap.size,oc (trA b d) 112)]
    refine(sh (cs:=j20 2) rfl HG5 (q1j _ rfl) rfl (j4K _) ?_)
    refine fun _=>enL fun u308 EX307=>?_
    cases x2 with
    |false=>
     go_upto_region 5 with (fail)
     refine rgP [0,1,2,3,4] [] EX307 rfl ?_;intro hw309 hone
     refine qv (v:= .pointer (some ⟨g5,0,none⟩)) rfl (fun u hu=>j1o (k:=0) (by decide) (ad:=⟨g5,0,none⟩) u rfl) ⟨_,hw309⟩ ?_
     refine qv rfl (fun u hu=>j0a u (j3y (i:=2) hu mH) rfl) ⟨_,hw309⟩ ?_
     refine qv rfl (fun u hu=>j0a u (j4L hu (mT (mT mH)) HB.out.len HD.out.len) rfl) ⟨_,hw309⟩ ?_
     (refine j0I (f:=128) (args:= #[.agg (trA b d)]) (caps:= #[]) (all:= #[.agg (trA b d)]) (v:= .bool false) rfl rfl rfl rfl rfl func128 rfl rfl (fun u hu=>HC2.out u (nl hu)) ?_ hw309;intro K hK;go_big_quiet_op;go_big_quiet_on)
     refine qo rfl ⟨_,hw309⟩ ?_
     clear hone hw309;refine enP fun u311 EX310=>?_
     go_upto_region 6 with (fail)
     refine rgQ [0,1,2] [] EX310 rfl fun hw=>?_
     refine qv (v:= .pointer (some ⟨g5,1,none⟩)) rfl (fun u hu=>j1o (k:=1) (by decide) (ad:=⟨g5,0,none⟩) u rfl) hw ?_
     refine qv rfl (fun u hu=>j0a u (j51 (i:=2) hu mH) rfl) hw ?_
     refine qo rfl hw ?_
     refine enP fun u314 EX313=>?_
     have HBE:=hD (EnvX.bel EX313.out)
     go_wp2
     go_ret
     exact⟨rfl,HBE.out⟩
    |true=>
     go_upto_region 5 with (fail)
     refine rgP [0,1,2,3,4] [] EX307 rfl ?_;intro hw309 hone
     refine qv (v:= .pointer (some ⟨g5,0,none⟩)) rfl (fun u hu=>j1o (k:=0) (by decide) (ad:=⟨g5,0,none⟩) u rfl) ⟨_,hw309⟩ ?_
     refine qv rfl (fun u hu=>j0a u (j3y (i:=2) hu mH) rfl) ⟨_,hw309⟩ ?_
     refine qv rfl (fun u hu=>j0a u (j4L hu (mT (mT mH)) HB.out.len HD.out.len) rfl) ⟨_,hw309⟩ ?_
     (refine j0I (f:=128) (args:= #[.agg (trA b d)]) (caps:= #[]) (all:= #[.agg (trA b d)]) (v:= .bool true) rfl rfl rfl rfl rfl func128 rfl rfl (fun u hu=>HC2.out u (nl hu)) ?_ hw309;intro K hK;go_big_quiet_op;go_big_quiet_on)
     refine qo rfl ⟨_,hw309⟩ ?_
     clear hone hw309;refine enP fun u311 EX310=>?_
     go_wp2
     go_roundw
     case rel=>exact⟨3,by omega,by go_num,⟨(fun _=>by simp),(fun _=>by simp),(fun _=>by simp),(fun h=>absurd h (by omega)),(fun h=>absurd h (by omega))⟩,EX310.out.sub (fun _ h=>mT h)⟩
     case measure=>simp[intOf]
  · have C2:Hid (decide (((3:Nat):Int)<5)=true):=by show _=_;decide
    obtain rfl:x0=true:=HX.out.1 (by omega)
    obtain rfl:x1=true:=HX.out.2.1 (by omega)
    obtain rfl:x2=true:=HX.out.2.2.1 (by omega)
    go_upto_region 3 with (fail)
    refine rgQ [0] [] EK rfl fun hw=>?_
    refine qv rfl (fun u hu=>j0o u C2.out rfl rfl) hw ?_
    refine enP fun u403 EX402=>?_
    go_upto_region 4 with (fail)
    refine rgQ [0] [1,2] EX402 rfl fun hw=>?_
    refine qv (v:= .agg (j20 3)) rfl (fun u hu=>j5J (i:=3) (by decide) u rfl rfl) hw ?_
    refine j0b<|qn rfl (j9W _) fun g5 HG5 he405=>?_
    change j1E _ _ _ _ _ _ [(g5,oc j71 157),(g3,oc (rulesA) 158),(w.heap.size,oc (trA b d) 112)]
    refine(sh (cs:=j20 3) rfl HG5 (q1j _ rfl) rfl (j4K _) ?_)
    refine fun _=>enL fun u408 EX407=>?_
    cases x3 with
    |false=>
     go_upto_region 5 with (fail)
     refine rgP [0,1,2,3,4] [] EX407 rfl ?_;intro hw409 hone
     refine qv (v:= .pointer (some ⟨g5,0,none⟩)) rfl (fun u hu=>j1o (k:=0) (by decide) (ad:=⟨g5,0,none⟩) u rfl) ⟨_,hw409⟩ ?_
     refine qv rfl (fun u hu=>j0a u (j3y (i:=3) hu mH) rfl) ⟨_,hw409⟩ ?_
     refine qv rfl (fun u hu=>j0a u (j4L hu (mT (mT mH)) HB.out.len HD.out.len) rfl) ⟨_,hw409⟩ ?_
     (refine j0I (f:=129) (args:= #[.agg (trA b d)]) (caps:= #[]) (all:= #[.agg (trA b d)]) (v:= .bool false) rfl rfl rfl rfl rfl func129 rfl rfl (fun u hu=>HC3.out u (nl hu)) ?_ hw409;intro K hK;go_big_quiet_op;go_big_quiet_on)
     refine qo rfl ⟨_,hw409⟩ ?_
     clear hone hw409;refine enP fun u411 EX410=>?_
     go_upto_region 6 with (fail)
     refine rgQ [0,1,2] [] EX410 rfl fun hw=>?_
     refine qv (v:= .pointer (some ⟨g5,1,none⟩)) rfl (fun u hu=>j1o (k:=1) (by decide) (ad:=⟨g5,0,none⟩) u rfl) hw ?_
     refine qv rfl (fun u hu=>j0a u (j51 (i:=3) hu mH) rfl) hw ?_
     refine qo rfl hw ?_
     refine enP fun u414 EX413=>?_
     have HBE:=hD (EnvX.bel EX413.out)
     go_wp2
     go_ret
     exact⟨rfl,HBE.out⟩
    |true=>
     go_upto_region 5 with (fail)
     refine rgP [0,1,2,3,4] [] EX407 rfl ?_;intro hw409 hone
     refine qv (v:= .pointer (some ⟨g5,0,none⟩)) rfl (fun u hu=>j1o (k:=0) (by decide) (ad:=⟨g5,0,none⟩) u rfl) ⟨_,hw409⟩ ?_
     refine qv rfl (fun u hu=>j0a u (j3y (i:=3) hu mH) rfl) ⟨_,hw409⟩ ?_
     refine qv rfl (fun u hu=>j0a u (j4L hu (mT (mT mH)) HB.out.len HD.out.len) rfl) ⟨_,hw409⟩ ?_
     (refine j0I (f:=129) (args:= #[.agg (trA b d)]) (caps:= #[]) (all:= #[.agg (trA b d)]) (v:= .bool true) rfl rfl rfl rfl rfl func129 rfl rfl (fun u hu=>HC3.out u (nl hu)) ?_ hw409;intro K hK;go_big_quiet_op;go_big_quiet_on)
     refine qo rfl ⟨_,hw409⟩ ?_
     clear hone hw409;refine enP fun u411 EX410=>?_
     go_wp2
     go_roundw
     case rel=>exact⟨4,by omega,by go_num,⟨(fun _=>by simp),(fun _=>by simp),(fun _=>by simp),(fun _=>by simp),(fun h=>absurd h (by omega))⟩,EX410.out.sub (fun _ h=>mT h)⟩
     case measure=>simp[intOf]
  · have C2:Hid (decide (((4:Nat):Int)<5)=true):=by show _=_;decide
    obtain rfl:x0=true:=HX.out.1 (by omega)
    obtain rfl:x1=true:=HX.out.2.1 (by omega)
    obtain rfl:x2=true:=HX.out.2.2.1 (by omega)
    obtain rfl:x3=true:=HX.out.2.2.2.1 (by omega)
    go_upto_region 3 with (fail)
    refine rgQ [0] [] EK rfl fun hw=>?_
    refine qv rfl (fun u hu=>j0o u C2.out rfl rfl) hw ?_
    refine enP fun u503 EX502=>?_
    go_upto_region 4 with (fail)
    refine rgQ [0] [1,2] EX502 rfl fun hw=>?_
    refine qv (v:= .agg (j20 4)) rfl (fun u hu=>j5J (i:=4) (by decide) u rfl rfl) hw ?_
    refine j0b<|qn rfl (j9W _) fun g5 HG5 he505=>?_
    change j1E _ _ _ _ _ _ [(g5,oc j71 157),(g3,oc (rulesA) 158),(w.heap.size,oc (trA b d) 112)]
    refine(sh (cs:=j20 4) rfl HG5 (q1j _ rfl) rfl (j4K _) ?_)
    refine fun _=>enL fun u508 EX507=>?_
    cases x4 with
    |false=>
     go_upto_region 5 with (fail)
     refine rgP [0,1,2,3,4] [] EX507 rfl ?_;intro hw509 hone
     refine qv (v:= .pointer (some ⟨g5,0,none⟩)) rfl (fun u hu=>j1o (k:=0) (by decide) (ad:=⟨g5,0,none⟩) u rfl) ⟨_,hw509⟩ ?_
     refine qv rfl (fun u hu=>j0a u (j3y (i:=4) hu mH) rfl) ⟨_,hw509⟩ ?_
     refine qv rfl (fun u hu=>j0a u (j4L hu (mT (mT mH)) HB.out.len HD.out.len) rfl) ⟨_,hw509⟩ ?_
     (refine j0I (f:=130) (args:= #[.agg (trA b d)]) (caps:= #[]) (all:= #[.agg (trA b d)]) (v:= .bool false) rfl rfl rfl rfl rfl func130 rfl rfl (fun u hu=>HC4.out u (nl hu)) ?_ hw509;intro K hK;go_big_quiet_op;go_big_quiet_on)
     refine qo rfl ⟨_,hw509⟩ ?_
     clear hone hw509;refine enP fun u511 EX510=>?_
     go_upto_region 6 with (fail)
     refine rgQ [0,1,2] [] EX510 rfl fun hw=>?_
     refine qv (v:= .pointer (some ⟨g5,1,none⟩)) rfl (fun u hu=>j1o (k:=1) (by decide) (ad:=⟨g5,0,none⟩) u rfl) hw ?_
     refine qv rfl (fun u hu=>j0a u (j51 (i:=4) hu mH) rfl) hw ?_
     refine qo rfl hw ?_
     refine enP fun u514 EX513=>?_
     have HBE:=hD (EnvX.bel EX513.out)
     go_wp2
     go_ret
     exact⟨rfl,HBE.out⟩
    |true=>
     go_upto_region 5 with (fail)
     refine rgP [0,1,2,3,4] [] EX507 rfl ?_;intro hw509 hone
     refine qv (v:= .pointer (some ⟨g5,0,none⟩)) rfl (fun u hu=>j1o (k:=0) (by decide) (ad:=⟨g5,0,none⟩) u rfl) ⟨_,hw509⟩ ?_
     refine qv rfl (fun u hu=>j0a u (j3y (i:=4) hu mH) rfl) ⟨_,hw509⟩ ?_
     refine qv rfl (fun u hu=>j0a u (j4L hu (mT (mT mH)) HB.out.len HD.out.len) rfl) ⟨_,hw509⟩ ?_
     (refine j0I (f:=130) (args:= #[.agg (trA b d)]) (caps:= #[]) (all:= #[.agg (trA b d)]) (v:= .bool true) rfl rfl rfl rfl rfl func130 rfl rfl (fun u hu=>HC4.out u (nl hu)) ?_ hw509;intro K hK;go_big_quiet_op;go_big_quiet_on)
     refine qo rfl ⟨_,hw509⟩ ?_
     clear hone hw509;refine enP fun u511 EX510=>?_
     go_wp2
     go_roundw
     case rel=>exact⟨5,by omega,by go_num,⟨(fun _=>by simp),(fun _=>by simp),(fun _=>by simp),(fun _=>by simp),(fun _=>by simp)⟩,EX510.out.sub (fun _ h=>mT h)⟩
     case measure=>simp[intOf]
  · have C2:Hid (decide (((5:Nat):Int)<5)=false):=by show _=_;decide
    obtain rfl:x0=true:=HX.out.1 (by omega)
    obtain rfl:x1=true:=HX.out.2.1 (by omega)
    obtain rfl:x2=true:=HX.out.2.2.1 (by omega)
    obtain rfl:x3=true:=HX.out.2.2.2.1 (by omega)
    obtain rfl:x4=true:=HX.out.2.2.2.2 (by omega)
    go_upto_region 3 with (fail)
    refine rgQ [0] [] EK rfl fun hw=>?_
    refine qv rfl (fun u hu=>j0o u C2.out rfl rfl) hw ?_
    refine enP fun u603 EX602=>?_
    go_upto_region 8 with (fail)
    refine rgQ [0] [] EX602 rfl fun hw=>?_
    refine qo rfl hw ?_
    refine enP fun u606 EX605=>?_
    have HBE:=hD (EnvX.bel EX605.out)
    go_wp2
    go_ret
    exact⟨rfl,HBE.out⟩
def j86(r:TipR)(e:Bool)(x:Value)(N:j0e):Prop:= ∃t,x= .tuple #[j29 t, .bool e]∧KeptA N (IsTip r t)∧ ∃v,IsTip r t v
def x1R(r:BlkR)(e:Nat)(x:Value)(N:j0e):Prop:= ∃b,x= .tuple #[j1O b, .int .i64 (e:Int)]∧KeptA N (j5Q r b)∧ ∃v,j5Q r b v
def x39(r:TipR)(t:TipM)(B:Nat)(w':World):Prop:= ∃N Nc,KeptA N (fun u=>j5Q r.b t.b u∧TotsIn u u.heap.size t.A3 t.p)∧CoB t.c t.A4 Nc∧(∀y∈N,B≤y.1∧w'.heap[y.1]?=some y.2)∧ ∀y∈Nc,w'.heap[y.1]?=some y.2
theorem q5w(bits:Nat)(w:World)(hb:bits<4294967296)(ht:Tables w)(k:isC bits=false):
  j1T 38 #[.int .u32 (bits:Int)] w (j86 (j2S bits).1 (j2S bits).2):=by
 unfold j1T
 have HTG:Hid (Rt w 72 #[.int .u32 (bits:Int)] (.tuple #[.agg (wcs (tv bits)), .bool (isC bits)])):=fun u hu=>j2E bits u hb
 have HF:Hid (j2S bits=(j27,false)):=by show _=_;unfold j2S;rw[if_neg (by rw[k];decide)]
 have HNL:Hid (j0M noTipM.b.h):=j1k
 rw[k]at HTG
 have E1:Hid (EnvX w (w.alloc (.cells (j0j noTipM) 41)) [(w.heap.size,oc (j0j noTipM) 41)]):=(EnvX.start w).new _
 clear k hb ht
 go_enter func38,ntmps38
 go_upto_region 1 with (fail)
 rw[←j2I]
 generalize w.alloc (.cells (j0j noTipM) 41)=W at *
 refine rgQ [0,1,2,3,4] [5,6,7] E1 rfl fun hw=>?_
 refine qo rfl hw ?_
 refine qc rfl func72 (fun u hu=>HTG.out u (nl hu)) hw ?_
 refine qw 3 hw ?_
 refine j0b<|qn rfl (j2J _) fun gt HGt he2=>?_
 change j1E _ _ _ _ _ _ [(gt,oc (wcs 0) 32),(w.heap.size,oc (j0j noTipM) 41)]
 refine(sh rfl HGt (j0w _) ((j0s _).trans (j0s _).symm) (j1v _) ?_)
 intro he3
 refine phE [7] [] he3 fun hw=>?_
 refine qo rfl hw ?_
 refine enP fun u6 EX5=>?_
 go_upto_region 2 with (fail)
 refine rgQ [0,1] [] EX5 rfl fun hw=>?_
 refine qw 2 hw ?_
 refine enP fun u9 EX8=>?_
 go_upto_region 3 with (fail)
 refine rgQ [0] [1,2] EX8 rfl fun hw=>?_
 refine qv (v:= .agg (j0j noTipM)) rfl (fun u hu=>j0p u j3Z) hw ?_
 refine j0b<|(so rfl (Nat.le_refl _) (mT mH) (j0K _ (j0m HNL.out)) (j0V HNL.out) (j0R _) ?_)
 intro he11
 refine phE [2] [] he11 fun hw=>?_
 refine qo rfl hw ?_
 refine enP fun u14 EX13=>?_
 have Q0:=hD (EnvX.box EX13.out _ _ mH)
 have HBEL:=hD EX13.out.bel
 clear EX13
 go_wp2_with ((with_reducible refine bodyPost_ret (v:= .tuple #[.agg (j0j noTipM), .bool false]) ?_ ?_ ?_);(exact j0v (p:=2) (q:=3) (ty:=41) results38 _ _ (w.heap.size) 41 (j0j noTipM) (0,0) _ rfl _ rfl Q0.out underlying41 rfl (j0K _ (j0m HNL.out)));(rfl))
 first|exact⟨_,[],rfl,by rw[HF.out];exact⟨noTipM,rfl,(fun _ _ _ _ _=>⟨rfl,TipOk.no _⟩),⟨w,rfl,TipOk.no _⟩⟩,HBEL.out,fun y hy=>by cases hy⟩|exact⟨[],by rw[HF.out];exact⟨noTipM,rfl,(fun _ _ _ _ _=>⟨rfl,TipOk.no _⟩),⟨w,rfl,TipOk.no _⟩⟩,HBEL.out,fun a b hy=>by cases hy⟩
theorem q1D(bits:Nat)(w:World)(hb:bits<4294967296)(ht:Tables w)(k:isC bits=true):
  j1T 38 #[.int .u32 (bits:Int)] w (j86 (j2S bits).1 (j2S bits).2):=by
 unfold j1T
 have HTG:Hid (Rt w 72 #[.int .u32 (bits:Int)] (.tuple #[.agg (wcs (tv bits)), .bool (isC bits)])):=fun u hu=>j2E bits u hb
 have HF:Hid (j2S bits=(j4t bits,true)):=by show _=_;unfold j2S;rw[if_pos k]
 rw[k]at HTG
 have HTP:Hid (∀(A1:Option Addr)(c1:Nat)(N1:j0e)(u:World),FreshR 61 37 (j1A [] (j0C (j3k bits))).length ((j1A [] (j0C (j3k bits))).map j11).flatten (.slice A1 (j1A [] (j0C (j3k bits))).length c1) N1→(j1A [] (j0C (j3k bits))).length≤c1→c1≤maxLen→(∀y∈N1,u.heap[y.1]?=some y.2)→IsTip (j4t bits) ⟨⟨j3k bits,[],none,0,0,[],none,0,0⟩,j1A [] (j0C (j3k bits)),A1,(j1A [] (j0C (j3k bits))).length,c1,[],none,0,0⟩ u):=fun A1 c1 N1 u h1 h2 h3 h4=>q6N hb h1 h2 h3 h4
 have hok:=q25 hb
 obtain⟨X,hX⟩: ∃X,j1K []=X:=⟨_,rfl⟩
 obtain⟨Z,hZ⟩: ∃Z,noTot.h=Z:=⟨_,rfl⟩
 have HX:Hid (X.length=32):=by show _=_;rw[←hX];exact(j3t (l:=[]) (fun x h=>by cases h)).1
 have HZ:Hid (j2z noTot∧Z.length=32):=⟨noTot_ok.len,by rw[←hZ];exact noTot_ok.len⟩
 have hHE:j3k bits=⟨0,z32,X,X,Z,0,bits,0⟩:=by unfold j3k;rw[hX,hZ]
 have HZE:=hD hZ
 have HLR:Hid (Rt w 34 #[.slice none 0 0] (idv X)):=fun u hu=>by have h:=j8C [] none 0 0 u rfl (by omega) (by omega) (Nat.zero_le _) (fun x h=>by cases h) (IdsIn.nil _ _ _) (ht.below (EnvX.bel hu));rw[show j1x []=[]from rfl,hX]at h;exact h
 have HCR:Hid (Rt w 81 #[.slice none 0 0] (idv X)):=fun u hu=>by have h:=j8H [] none 0 0 u rfl (by omega) (by omega) (Nat.zero_le _) ⟨fun h=>absurd h (Nat.lt_irrefl 0),fun t h=>by cases h⟩ (ht.below (EnvX.bel hu));rw[show j7E (rsT [])=[]from rfl,hX]at h;exact h
 have HRT:Hid (Rt w 31 #[.slice none 0 0] (j3j noTot)):=fun u hu=>by have h:=q1h [] none 0 0 u rfl (by omega) (fun x h=>by cases h) (TotsIn.nil _ _ _) (ht.below (EnvX.bel hu));rw[show j3M []=noTot from rfl]at h;exact h
 obtain⟨H,hH⟩: ∃H,j3k bits=H:=⟨_,rfl⟩
 rw[hH]at HTP hok hHE
 have HOK:=hD hok
 have HHE:=hD hHE
 have HLH:Hid (j0M H):=hok.len
 have HAP:Hid (∀u,EnvX w u []→Calls Tryz.prog 80 #[.slice none 0 0,hdV H] u fun e w'=>(∃v,e= .returned v∧w'.ownsRow u.heap.size 61 37 v (j1A [] (j0C H)).length (((j1A [] (j0C H)).map j11).flatten))∧Below u.heap.size u w'):=fun u hu=>q0Z [] none 0 0 H u rfl (by omega) (fun _ h=>by cases h) (TotsIn.nil _ _ _) HOK.out (ht.below (EnvX.bel hu))
 have E1:Hid (EnvX w (w.alloc (.cells (j0j noTipM) 41)) [(w.heap.size,oc (j0j noTipM) 41)]):=(EnvX.start w).new _
 clear k hb hok hX hZ hHE hH ht
 go_enter func38,ntmps38
 go_upto_region 1 with (fail)
 rw[←j2I]
 generalize w.alloc (.cells (j0j noTipM) 41)=W at *
 refine rgQ [0,1,2,3,4] [5,6,7] E1 rfl fun hw=>?_
 refine qo rfl hw ?_
 refine qc rfl func72 (fun u hu=>HTG.out u (nl hu)) hw ?_
 refine qw 3 hw ?_
 refine j0b<|qn rfl (j2J _) fun gt HGt he2=>?_
 change j1E _ _ _ _ _ _ [(gt,oc (wcs 0) 32),(w.heap.size,oc (j0j noTipM) 41)]
 refine(sh rfl HGt (j0w _) ((j0s _).trans (j0s _).symm) (j1v _) ?_)
 intro he3
 refine phE [7] [] he3 fun hw=>?_
 refine qo rfl hw ?_
 refine enP fun u6 EX5=>?_
 go_upto_region 2 with (fail)
 refine rgQ [0,1] [] EX5 rfl fun hw=>?_
 refine qw 2 hw ?_
 refine enP fun u9 EX8=>?_
 go_upto_region 4 with (fail)
 refine rgQ [0,1,2,3,4,5] [6,7] EX8 rfl fun hw=>?_
 refine qc rfl func34 (fun u hu=>HLR.out u (nl hu)) hw ?_
 refine qc rfl func81 (fun u hu=>HCR.out u (nl hu)) hw ?_
 refine qc rfl func31 (fun u hu=>HRT.out u (nl hu)) hw ?_
 refine qv (v:=idv Z) rfl (fun u hu=>by rw[←HZE.out];exact q7o HZ.out.1 u rfl) hw ?_
 refine qo rfl hw ?_
 refine qv (v:= .agg (hdA H)) rfl (fun u hu=>j0p u (by rw[HHE.out];exact q6L HX.out HX.out HZ.out.2)) hw ?_
 refine j0b<|qn rfl (q3A _) fun g6 HG6 he11=>?_
 change j1E _ _ _ _ _ _ [(g6,oc (hdA j2H) 34),(gt,oc (wcs (tv bits)) 32),(w.heap.size,oc (j0j noTipM) 41)]
 refine(sh rfl HG6 (j6N _ (j1r HLH.out)) ((j1r (h:=j2H) j1k).trans (j1r HLH.out).symm) (j5r _) ?_)
 refine fun _=>enL fun u14 EX13=>?_
 go_upto_region 5 with (fail)
 refine rgK [0,1,2] 4 EX13 rfl fun hw=>?_
 refine ql rfl mH HLH.out hw ?_
 refine qv (v:= .agg (j0L ⟨H,[],none,0,0,[],none,0,0⟩)) rfl (fun u hu=>j0p u (q4v HLH.out)) hw ?_
 refine ql rfl mH HLH.out hw ?_
 refine j0b<|aO 3 (qr rfl func80 (fun u hu=>j0i (HAP.out u (nl hu))) ?_)
 rintro x N1 hF hf he16
 obtain⟨A1,c1,rfl,h1,h2⟩:=FreshR.formR hF
 have HF1:=hD (And.intro hF (And.intro h1 h2))
 have HNE:Hid (∀y∈N1,y.1≠w.heap.size):=fun y hy h=>(hf y hy).2 _ (mT (mT mH)) h.symm
 have HNL:Hid (∀y∈N1,w.heap.size≤y.1):=fun y hy=>(hf y hy).1
 clear hF h1 h2
 clear hf
 refine phF [4] 2 rfl he16 fun hw=>?_
 refine qv (v:= .agg (j0j ⟨⟨H,[],none,0,0,[],none,0,0⟩,j1A [] (j0C H),A1,(j1A [] (j0C H)).length,c1,[],none,0,0⟩)) rfl (fun u hu=>j0p u (q4Z (b:=⟨H,[],none,0,0,[],none,0,0⟩) HLH.out)) hw ?_
 refine j0b<|aO 5 (j0z rfl (w.heap.size) (j0j ⟨⟨H,[],none,0,0,[],none,0,0⟩,j1A [] (j0C H),A1,(j1A [] (j0C H)).length,c1,[],none,0,0⟩) rfl rfl (Nat.le_refl _) 41 ((j0j noTipM)) (mR (mT (mT mH))) (j0K _ (j0m HLH.out)) (j0V HLH.out) (j0R _) ((w.heap.size,oc (j0j ⟨⟨H,[],none,0,0,[],none,0,0⟩,j1A [] (j0C H),A1,(j1A [] (j0C H)).length,c1,[],none,0,0⟩) 41)::(N1++[])) (mA ⟨.inl rfl,fun y hy=> .inr ⟨mL (by simpa using hy),HNE.out y (by simpa using hy)⟩⟩) ?_)
 intro he18
 refine phF [6] 0 rfl he18 fun hw=>?_
 refine qo rfl hw ?_
 refine eH fun u21 EX20=>?_
 have HMB:Hid (∀y∈N1,y∈((w.heap.size,oc (j0j ⟨⟨H,[],none,0,0,[],none,0,0⟩,j1A [] (j0C H),A1,(j1A [] (j0C H)).length,c1,[],none,0,0⟩) 41)::(N1++[]))):=fun y hy=>mT (mL hy)
 have HTT:Hid (KeptA N1 (IsTip (j4t bits) ⟨⟨H,[],none,0,0,[],none,0,0⟩,j1A [] (j0C H),A1,(j1A [] (j0C H)).length,c1,[],none,0,0⟩)):=fun w0 u M hu hM=>HTP.out A1 c1 N1 u HF1.out.1 HF1.out.2.1 HF1.out.2.2 (fun y hy=>EnvX.box hu _ _ (hM y hy))
 have HVV:Hid (∃v,IsTip (j4t bits) ⟨⟨H,[],none,0,0,[],none,0,0⟩,j1A [] (j0C H),A1,(j1A [] (j0C H)).length,c1,[],none,0,0⟩ v):=⟨_,HTT.out w u21 _ EX20.out HMB.out⟩
 have HFB:Hid (∀y∈N1,w.heap.size≤y.1∧u21.heap[y.1]?=some y.2):=fun y hy=>⟨HNL.out y hy,EnvX.box EX20.out _ _ (HMB.out y hy)⟩
 have Q0:=hD (EnvX.box EX20.out _ _ mH)
 have HBEL:=hD EX20.out.bel
 clear EX20
 go_wp2_with ((with_reducible refine bodyPost_ret (v:= .tuple #[.agg (j0j ⟨⟨H,[],none,0,0,[],none,0,0⟩,j1A [] (j0C H),A1,(j1A [] (j0C H)).length,c1,[],none,0,0⟩), .bool true]) ?_ ?_ ?_);(exact j0v (p:=2) (q:=3) (ty:=41) results38 _ _ (w.heap.size) 41 (j0j ⟨⟨H,[],none,0,0,[],none,0,0⟩,j1A [] (j0C H),A1,(j1A [] (j0C H)).length,c1,[],none,0,0⟩) (0,0) _ rfl _ rfl Q0.out underlying41 rfl (j0K _ (j0m (t:=⟨⟨H,[],none,0,0,[],none,0,0⟩,j1A [] (j0C H),A1,(j1A [] (j0C H)).length,c1,[],none,0,0⟩) HLH.out)));(rfl))
 first|exact⟨_,N1,rfl,by rw[HF.out];exact⟨⟨⟨H,[],none,0,0,[],none,0,0⟩,j1A [] (j0C H),A1,(j1A [] (j0C H)).length,c1,[],none,0,0⟩,rfl,HTT.out,HVV.out⟩,HBEL.out,HFB.out⟩|exact⟨N1,by rw[HF.out];exact⟨⟨⟨H,[],none,0,0,[],none,0,0⟩,j1A [] (j0C H),A1,(j1A [] (j0C H)).length,c1,[],none,0,0⟩,rfl,HTT.out,HVV.out⟩,HBEL.out,fun a b hy=>HFB.out (a,b) hy⟩
theorem j7r(bits:Nat)(w:World)(hb:bits<4294967296)(ht:Tables w):
  j1T 38 #[.int .u32 (bits:Int)] w (j86 (j2S bits).1 (j2S bits).2):=by
 unfold j1T
 cases k:isC bits with
 |false=>exact q5w bits w hb ht k
 |true=>exact q1D bits w hb ht k
section
variable {a:Act}{dst:Option Tmp}{x:Operand}{ty:TypeId}{pos:String}{after:Array Edge}{gd:Option (Nat × Bool)}
end
theorem j9n{b:BlkM}(k:j0M b.h){X:Hd}(kx:j0M X):(Tryz.prog.info? 34).map (·.size)=some (Value.agg (hdA X)).cells.size∧0+(Value.agg (hdA X)).cells.size≤(j0L b).size∧(Value.agg (hdA X)).cells.all (·.oneCell')=true∧(j0L b).toList.take 0++(Value.agg (hdA X)).cells.toList++(j0L b).toList.drop (0+(Value.agg (hdA X)).cells.size)=(j0L {b with h:=X}).toList:=by
 refine j6v (z:=135) aggHd.size (j1r kx) (j5r _) (by rw[j0O k];omega) ?_
 show hdC X++_=(hdC b.h++_).take 0++hdC X++(hdC b.h++_).drop (0+135)
 rw[j9x k]
theorem q4Q(t:TipM)(l:List TxM)(A:Option Addr)(n c nonce:Nat)(tries:Int)(w:World)(kt:TipOk w t)(mt:j3f t)(hl:l.length=n)(hnc:n≤c)(hcm:c≤maxLen)(hA:TxsIn w A l)(ml:j3W l)(hno:nonce<18446744073709551616)(hti:I64 tries)(ht:Tables w):
  j1T 46 #[j29 t, .slice A n c, .int .u64 (nonce:Int), .int .i64 tries] w (x1R (j2Q t.r (rsT l) nonce tries).1 (j2Q t.r (rsT l) nonce tries).2):=by
 unfold j1T
 have HLT:Hid (j0M t.b.h):=kt.b.h.len
 have HLE:Hid (w.heap.size≤w.heap.size+1):=by show _≤_;omega
 have HNB:Hid (j0M noBlkM.h):=j1k
 have HM4:=mt.2.2.1
 have HL4:=kt.l4
 have HBH:Hid (∀u,EnvX w u []→j1T 75 #[j29 t, .slice A n c, .int .u64 (nonce:Int)] u (q8I ⟨j05 t.r (rsT l) nonce,j0H t.r,rsT l⟩)):=fun u hu=>q6l t l A n c nonce u (kt.up (EnvX.bel hu)) mt hl hnc hcm (hA.up (EnvX.bel hu)) ml hno (ht.below (EnvX.bel hu))
 obtain⟨K,hK⟩: ∃K,j05 t.r (rsT l) nonce=K:=⟨_,rfl⟩
 have hKo:okHd K:=by rw[←hK];exact j9e (rsT l) (t:=t.r) kt.o3 kt.b.h.2.2.2.2.2.2.1 hno
 have HKK:=hD hK
 have HOK:=hD hKo
 rw[hK]at HBH
 have HMH:Hid (Rt w 100 #[hdV K] (.bool (decide (K.height<48)))):=fun u hu=>j8q K u hKo
 obtain⟨q,er,hap⟩: ∃q er,j0t t.c (rsT l)=(q,er):=⟨_,_,rfl⟩
 have HAP:Hid (j0t t.r.c (rsT l)=(q,er)):=hap
 have HAPP:Hid (∀u,EnvX w u []→Calls Tryz.prog 78 #[.slice t.A4 t.n4 t.c4, .slice A n c] u fun e w'=>(∃v,e= .returned (.tuple #[v, .int .i64 (er:Int)])∧x3q w' v q)∧Below u.heap.size u w'):=fun u hu=>by
  have h:=j7C t.c t.A4 t.n4 t.c4 l A n c u kt.l4 kt.b4.1 kt.b4.2 kt.o4 (CellsIn.up kt.m4 (EnvX.bel hu)) (by omega) hl hnc hcm (hA.up (EnvX.bel hu)) (ht.below (EnvX.bel hu))
  rw[hap]at h
  exact h
 obtain⟨X,bx,hmx⟩: ∃X bx,j3x K tries=(X,bx):=⟨_,_,rfl⟩
 have HMX:=hD hmx
 have HOX:Hid (okHd X):=by have h:=q4S hKo tries;rw[hmx]at h;exact h
 have HMI:Hid (Rt w 101 #[hdV K, .int .i64 tries] (.tuple #[hdV X, .bool bx])):=fun u hu=>by have h:=q76 K tries u hKo hti (ht.below (EnvX.bel hu));rw[hmx]at h;exact h
 obtain⟨mh,hmh⟩: ∃mh,decide (K.height<48)=mh:=⟨_,rfl⟩
 have HMH2:=hD hmh
 rw[hmh]at HMH
 have E1:Hid (EnvX w ((w.alloc (.cells (j0j t) 41)).alloc (.cells (j0L noBlkM) 37)) [(w.heap.size+1,oc (j0L noBlkM) 37),(w.heap.size,oc (j0j t) 41)]):=(EnvX.start w).two _ _
 clear kt mt hl hnc hcm hA ml hno ht hti hK hKo hap hmx HM4 HL4 hmh
 unfold j29
 go_enter func46,ntmps46
 go_upto_region 1 with (fail)
 rw[←j4w]
 generalize (w.alloc (.cells (j0j t) 41)).alloc (.cells (j0L noBlkM) 37)=W at *
 refine rgQ [0,1,2] [3,4,5] E1 rfl fun hw=>?_
 refine ql rfl (mT mH) HLT.out hw ?_
 refine qw 2 hw ?_
 refine j0b<|qr rfl func75 (fun u hu=>HBH.out u (nl hu)) ?_
 rintro x N3 hF hf he2
 obtain⟨b3,rfl,kk,kv⟩:=hF
 have HKK_:=hD kk
 have HKV:=hD kv
 have HN3:Hid (∀y∈N3,w.heap.size≤y.1∧y.1≠w.heap.size+1):=fun y hy=>⟨(hf y hy).1,fun h=>(hf y hy).2 _ mH h.symm⟩
 clear kk kv
 have HHB:Hid (b3.h=K):=by obtain⟨v,hv⟩:=HKV.out;exact congrArg BlkR.h hv.1
 have HLB:Hid (j0M b3.h):=by show j0M _;rw[HHB.out];exact HOK.out.len
 clear hf
 change j1E _ _ _ _ _ _ (N3++((w.heap.size+1,oc (j0L noBlkM) 37)::((w.heap.size,oc (j0j t) 41)::[])))
 refine qn rfl (j4R _) fun g4 HG4 he3=>?_
 change j1E _ _ _ _ _ _ ((g4,oc (j0L noBlkM) 37)::(N3++((w.heap.size+1,oc (j0L noBlkM) 37)::((w.heap.size,oc (j0j t) 41)::[]))))
 refine(sh rfl HG4 (j1J _ (j0O HLB.out)) (j1D HLB.out) (j15 _) ?_)
 refine fun _=>enL fun u6 EX5=>?_
 have HG4G:Hid (g4≠w.heap.size+1):=fun h=>HG4.out.2 _ (mR mH) h.symm
 have HG43:Hid (∀y∈N3,y.1≠g4):=fun y hy=>HG4.out.2 y (mL hy)
 cases mh with
 |false=>
  have h1:48≤K.height:=by have:=of_decide_eq_false HMH2.out;omega
  have H1:=hD h1
  clear h1
  go_upto_region 2 with (fail)
  refine rgQ [0,1,2,3] [] EX5 rfl fun hw=>?_
  refine qf rfl hw ?_
  refine qv (v:=hdV K) rfl (fun u hu=>by rw[←HHB.out];exact j0a u (j0B HLB.out (j02 hu mH HLB.out)).1 rfl) hw ?_
  refine qc rfl func100 (fun u hu=>HMH.out u (nl hu)) hw ?_
  refine qo rfl hw ?_
  refine enP fun u9 EX8=>?_
  have HF:Hid (j2Q t.r (rsT l) nonce tries=(j4f,3)):=x2H HKK.out H1.out
  go_upto_region 3 with (fail)
  refine rgQ [0] [1,2] EX8 rfl fun hw=>?_
  refine qv (v:= .agg (j0L noBlkM)) rfl (fun u hu=>j0p u j56) hw ?_
  refine j0b<|(so rfl HLE.out (mT (mR mH)) (j1J _ (j0O HNB.out)) (j1D HNB.out) (j15 _) ?_)
  intro he11
  refine phE [2] [] he11 fun hw=>?_
  refine qo rfl hw ?_
  refine enP fun u14 EX13=>?_
  have Q0:=hD (EnvX.box EX13.out _ _ mH)
  have HBEL:=hD EX13.out.bel
  clear EX13
  go_wp2_with ((with_reducible refine bodyPost_ret (v:= .tuple #[.agg (j0L noBlkM), .int .i64 3]) ?_ ?_ ?_);(exact j0v (p:=8) (q:=9) (ty:=37) results46 _ _ (w.heap.size+1) 37 (j0L noBlkM) (0,0) _ rfl _ rfl Q0.out underlying37 rfl (j1J _ (j0O HNB.out)));(rfl))
  first|exact⟨_,[],rfl,by rw[HF.out];exact⟨noBlkM,rfl,(fun _ _ _ _ _=>⟨rfl,BlkOk.no _⟩),⟨w,rfl,BlkOk.no _⟩⟩,HBEL.out,fun y hy=>by cases hy⟩|exact⟨[],by rw[HF.out];exact⟨noBlkM,rfl,(fun _ _ _ _ _=>⟨rfl,BlkOk.no _⟩),⟨w,rfl,BlkOk.no _⟩⟩,HBEL.out,fun a b hy=>by cases hy⟩
 | true=>
  have h1: ¬48≤K.height:=by have:=of_decide_eq_true HMH2.out;omega
  have H1:=hD h1
  clear h1
  go_upto_region 2 with (fail)
  refine rgQ [0,1,2,3] [] EX5 rfl fun hw=>?_
  refine qf rfl hw ?_
  refine qv (v:=hdV K) rfl (fun u hu=>by rw[←HHB.out];exact j0a u (j0B HLB.out (j02 hu mH HLB.out)).1 rfl) hw ?_
  refine qc rfl func100 (fun u hu=>HMH.out u (nl hu)) hw ?_
  refine qo rfl hw ?_
  refine enP fun u9 EX8=>?_
  go_upto_region 4 with (fail)
  refine rgQ [0,1,2] [3,4,5,6,7,8] EX8 rfl fun hw=>?_
  refine qf rfl hw ?_
  refine ql rfl (mT (mR (mT mH))) HLT.out hw ?_
  refine qo rfl hw ?_
  refine j0b<|(j0X (gd:=none) (R:=fun x M'=> ∃A c N,x= .tuple #[.slice A (q).length c, .int .i64 (er:Int)]∧M'=N++((g4,oc (j0L b3) 37)::(N3++((w.heap.size+1,oc (j0L noBlkM) 37)::((w.heap.size,oc (j0j t) 41)::[]))))∧((q).length≤c∧c≤maxLen)∧CoB (q) A N) rfl rfl rfl rfl (fun u hu=>j0D (fid:=78) (xs:= #[.tmp 26, .tmp 27]) (args:= #[.slice t.A4 t.n4 t.c4, .slice A n c]) rfl func78 rfl rfl u (q3Z (HAPP.out u (nl hu)) hu)) ?_)
  rintro _ _ ⟨A8,c8,N8,rfl,rfl,hc8,hb8⟩ he11;intro K' hK';go_big_quiet_op;go_big_quiet_on
  have HC8:=hD hc8
  have HB8:=hD hb8
  clear hc8 hb8
  refine phE [4,5,6,7,8] [] he11 fun hw=>?_
  refine qw 5 hw ?_
  refine enP fun u14 EX13=>?_
  have E8:Hid (EnvX w u14 ((g4,oc (j0L b3) 37)::(N3++((w.heap.size+1,oc (j0L noBlkM) 37)::((w.heap.size,oc (j0j t) 41)::[]))))):=EnvX.sub EX13.out (fun y hy=>mR (by simpa using hy))
  clear EX13 HB8 HC8
  cases er with
  |succ e=>
   have DE:Hid (decide (((e+1:Nat):Int)≠0)=true):=decide_eq_true (by omega)
   go_upto_region 5 with (fail)
   refine rgQ [0,1] [] E8 rfl fun hw=>?_
   refine qo rfl hw ?_
   refine qv rfl (fun u hu=>j1i u DE.out rfl rfl) hw ?_
   refine enP fun u17 EX16=>?_
   have HF:Hid (j2Q t.r (rsT l) nonce tries=(j4f,e+1)):=by show _=_;rw[x1Z HKK.out H1.out (by rw[HAP.out];exact Nat.succ_ne_zero e),HAP.out]
   go_upto_region 6 with (fail)
   refine rgQ [0,1] [2,3] EX16 rfl fun hw=>?_
   refine qv (v:= .agg (j0L noBlkM)) rfl (fun u hu=>j0p u j56) hw ?_
   refine qo rfl hw ?_
   refine j0b<|(so rfl HLE.out (mT (mR mH)) (j1J _ (j0O HNB.out)) (j1D HNB.out) (j15 _) ?_)
   intro he19
   refine phE [3] [] he19 fun hw=>?_
   refine qo rfl hw ?_
   refine enP fun u22 EX21=>?_
   have Q0:=hD (EnvX.box EX21.out _ _ mH)
   have HBEL:=hD EX21.out.bel
   clear EX21
   go_wp2_with ((with_reducible refine bodyPost_ret (v:= .tuple #[.agg (j0L noBlkM), .int .i64 ((e+1:Nat):Int)]) ?_ ?_ ?_);(exact j0v (p:=8) (q:=9) (ty:=37) results46 _ _ (w.heap.size+1) 37 (j0L noBlkM) (0,0) _ rfl _ rfl Q0.out underlying37 rfl (j1J _ (j0O HNB.out)));(rfl))
   first|exact⟨_,[],rfl,by rw[HF.out];exact⟨noBlkM,rfl,(fun _ _ _ _ _=>⟨rfl,BlkOk.no _⟩),⟨w,rfl,BlkOk.no _⟩⟩,HBEL.out,fun y hy=>by cases hy⟩|exact⟨[],by rw[HF.out];exact⟨noBlkM,rfl,(fun _ _ _ _ _=>⟨rfl,BlkOk.no _⟩),⟨w,rfl,BlkOk.no _⟩⟩,HBEL.out,fun a b hy=>by cases hy⟩
  | zero=>
   have DE:Hid (decide (((0:Nat):Int)≠0)=false):=decide_eq_false (by omega)
   go_upto_region 5 with (fail)
   refine rgQ [0,1] [] E8 rfl fun hw=>?_
   refine qo rfl hw ?_
   refine qv rfl (fun u hu=>j1i u DE.out rfl rfl) hw ?_
   refine enP fun u17 EX16=>?_
   have HA0:Hid (¬(j0t t.r.c (rsT l)).2≠0):=by show¬_;rw[HAP.out];exact fun h=>h rfl
   go_upto_region 7 with (fail)
   refine rgQ [0,1,2,3,4,5,6] [7,8,9] EX16 rfl fun hw=>?_
   refine qf rfl hw ?_
   refine qv (v:=hdV K) rfl (fun u hu=>by rw[←HHB.out];exact j0a u (j0B HLB.out (j02 hu mH HLB.out)).1 rfl) hw ?_
   refine qo rfl hw ?_
   refine qc rfl func101 (fun u hu=>HMI.out u (nl hu)) hw ?_
   refine qw 3 hw ?_
   refine j0b<|qn rfl (q3A _) fun g7 HG7 he19=>?_
   change j1E _ _ _ _ _ _ ((g7,oc (hdA j2H) 34)::((g4,oc (j0L b3) 37)::(N3++((w.heap.size+1,oc (j0L noBlkM) 37)::((w.heap.size,oc (j0j t) 41)::[])))))
   refine(sh rfl HG7 (j6N _ (j1r HOX.out.len)) ((j1r (h:=j2H) j1k).trans (j1r HOX.out.len).symm) (j5r _) ?_)
   intro he20
   refine phE [9] [] he20 fun hw=>?_
   refine qo rfl hw ?_
   refine enP fun u23 EX22=>?_
   cases bx with
   |false=>
    go_upto_region 8 with (fail)
    refine rgQ [0,1] [] EX22 rfl fun hw=>?_
    refine qw 2 hw ?_
    refine enP fun u26 EX25=>?_
    have HF:Hid (j2Q t.r (rsT l) nonce tries=(j4f,4)):=x2k HKK.out H1.out HA0.out (by rw[HMX.out])
    go_upto_region 9 with (fail)
    refine rgQ [0] [1,2] EX25 rfl fun hw=>?_
    refine qv (v:= .agg (j0L noBlkM)) rfl (fun u hu=>j0p u j56) hw ?_
    refine j0b<|(so rfl HLE.out (mT (mT (mR mH))) (j1J _ (j0O HNB.out)) (j1D HNB.out) (j15 _) ?_)
    intro he28
    refine phE [2] [] he28 fun hw=>?_
    refine qo rfl hw ?_
    refine enP fun u31 EX30=>?_
    have Q0:=hD (EnvX.box EX30.out _ _ mH)
    have HBEL:=hD EX30.out.bel
    clear EX30
    go_wp2_with ((with_reducible refine bodyPost_ret (v:= .tuple #[.agg (j0L noBlkM), .int .i64 4]) ?_ ?_ ?_);(exact j0v (p:=8) (q:=9) (ty:=37) results46 _ _ (w.heap.size+1) 37 (j0L noBlkM) (0,0) _ rfl _ rfl Q0.out underlying37 rfl (j1J _ (j0O HNB.out)));(rfl))
    first|exact⟨_,[],rfl,by rw[HF.out];exact⟨noBlkM,rfl,(fun _ _ _ _ _=>⟨rfl,BlkOk.no _⟩),⟨w,rfl,BlkOk.no _⟩⟩,HBEL.out,fun y hy=>by cases hy⟩|exact⟨[],by rw[HF.out];exact⟨noBlkM,rfl,(fun _ _ _ _ _=>⟨rfl,BlkOk.no _⟩),⟨w,rfl,BlkOk.no _⟩⟩,HBEL.out,fun a b hy=>by cases hy⟩
   | true=>
    go_upto_region 8 with (fail)
    refine rgQ [0,1] [] EX22 rfl fun hw=>?_
    refine qw 2 hw ?_
    refine enP fun u26 EX25=>?_
    go_upto_region 10 with (fail)
    refine rgQ [0,1] [2] EX25 rfl fun hw=>?_
    refine qv rfl (fun u hu=>j0a u (j0B HOX.out.len (j1a hu mH)).1 rfl) hw ?_
    refine qf rfl hw ?_
    refine j0b<|(j33 rfl (g4) (0) (.agg (hdA X)) rfl rfl HG4.out.1 37 ((j0L b3)) (j0L {b3 with h:=X}) (mT mH) (j9n HLB.out HOX.out.len).1 (j9n HLB.out HOX.out.len).2.1 (j9n HLB.out HOX.out.len).2.2.1 (j9n HLB.out HOX.out.len).2.2.2 ((g4,oc (j0L {b3 with h:=X}) 37)::(N3++((w.heap.size+1,oc (j0L noBlkM) 37)::((w.heap.size,oc (j0j t) 41)::[])))) (mA ⟨.inl rfl,fun y hy=> .inr ((List.mem_append.1 hy).elim (fun h=>⟨mT (mT (mL h)),HG43.out y h⟩) (fun h=>⟨mT (mT (mR h)),HG4.out.2 y (mR h)⟩))⟩) ?_)
    refine fun _=>enL fun u30 EX29=>?_
    have HLX:Hid (j0M ({b3 with h:=X}:BlkM).h):=HOX.out.len
    have HF:Hid (j2Q t.r (rsT l) nonce tries=(⟨X,j0H t.r,rsT l⟩,0)):=by show _=_;rw[x12 HKK.out H1.out HA0.out (by rw[HMX.out]),HMX.out]
    go_upto_region 11 with (fail)
    refine rgQ [0] [1,2] EX29 rfl fun hw=>?_
    refine qv rfl (fun u hu=>j0a u (q2i (b:={b3 with h:=X}) hu mH HLX.out) rfl) hw ?_
    refine j0b<|(j0z rfl (w.heap.size+1) (j0L {b3 with h:=X}) rfl rfl HLE.out 37 ((j0L noBlkM)) (mT (mR mH)) (j1J _ (j0O (b:={b3 with h:=X}) HLX.out)) (j1D (b:={b3 with h:=X}) HLX.out) (j15 _) ((w.heap.size+1,oc (j0L {b3 with h:=X}) 37)::(N3++[])) (mA ⟨.inl rfl,fun y hy=> .inr ⟨mT (mL (by simpa using hy)),(HN3.out y (by simpa using hy)).2⟩⟩) ?_)
    intro he32
    refine phE [2] [] he32 fun hw=>?_
    refine qo rfl hw ?_
    refine enP fun u35 EX34=>?_
    have HTT:Hid (KeptA N3 (j5Q ⟨X,j0H t.r,rsT l⟩ {b3 with h:=X})):=fun w0 u M hu hM=>by
     have h:=HKK_.out w0 u M hu hM
     exact⟨by show BlkR.mk X b3.l (rsT b3.t)=_;rw[show b3.l=j0H t.r from congrArg BlkR.l h.1,show rsT b3.t=rsT l from congrArg BlkR.t h.1],⟨HOX.out,h.2.l1,h.2.b1,h.2.o1,h.2.m1,h.2.l2,h.2.b2,h.2.m2⟩⟩
    have HMB:Hid (∀y∈N3,y∈((w.heap.size+1,oc (j0L {b3 with h:=X}) 37)::(N3++[]))):=fun y hy=>mT (by simpa using hy)
    have HVV:Hid (∃v,j5Q ⟨X,j0H t.r,rsT l⟩ {b3 with h:=X} v):=⟨_,HTT.out w u35 _ EX34.out HMB.out⟩
    have HFB:Hid (∀y∈N3,w.heap.size≤y.1∧u35.heap[y.1]?=some y.2):=fun y hy=>⟨(HN3.out y hy).1,EnvX.box EX34.out _ _ (HMB.out y hy)⟩
    have Q0:=hD (EnvX.box EX34.out _ _ mH)
    have HBEL:=hD EX34.out.bel
    clear EX34
    go_wp2_with ((with_reducible refine bodyPost_ret (v:= .tuple #[.agg (j0L {b3 with h:=X}), .int .i64 0]) ?_ ?_ ?_);(exact j0v (p:=8) (q:=9) (ty:=37) results46 _ _ (w.heap.size+1) 37 (j0L {b3 with h:=X}) (0,0) _ rfl _ rfl Q0.out underlying37 rfl (j1J _ (j0O (b:={b3 with h:=X}) HLX.out)));(rfl))
    first|exact⟨_,N3,rfl,by rw[HF.out];exact⟨{b3 with h:=X},rfl,HTT.out,HVV.out⟩,HBEL.out,HFB.out⟩|exact⟨N3,by rw[HF.out];exact⟨{b3 with h:=X},rfl,HTT.out,HVV.out⟩,HBEL.out,fun a b hy=>HFB.out (a,b) hy⟩
theorem x4E{α β γ δ:Sort _}{F P:α→β→γ→δ→Prop}{G:Prop}(h:(∀a b c d,F a b c d→P a b c d)→G)(k: ∀a b c d,F a b c d→P a b c d):G:=h k
theorem x2s{t:TipR}{b:BlkR}{K:Hd}{d:Hd}{dl:List (List Int)}(hK:j05 t b.t b.h.nonce=K)(hd:d=K)(hl:dl=j0H t){e:Nat}(he:FK (decide (b.h.height<48)) (j9K b.h d) (decide (b.l=dl) && eqL b.h.links d.links) (j9N b.h d) (j4U b.h)=e+1):j2a t b=(t,e+1):=by
 subst hd hl
 unfold FK at he
 by_cases h1:b.h.height<48
 case neg=>
  rw[if_pos (decide_eq_false h1)]at he
  rw[←he]
  exact x2J (by omega)
 rw[if_neg (by rw[decide_eq_true h1];decide)]at he
 have n1: ¬48≤b.h.height:=by omega
 by_cases h2:b.h.height=d.height∧b.h.prev=d.prev∧b.h.bits=d.bits
 case neg=>
  rw[if_pos (show j9K b.h d=false from decide_eq_false h2)]at he
  rw[←he]
  exact x2y hK n1 h2
 rw[if_neg (by unfold j9K;rw[decide_eq_true h2];decide)]at he
 by_cases h3:b.l=j0H t∧b.h.links=d.links
 case neg=>
  rw[if_pos (by unfold eqL;rw[←Bool.decide_and];exact decide_eq_false h3)]at he
  rw[←he]
  exact x16 hK n1 h2 h3
 rw[if_neg (by unfold eqL;rw[←Bool.decide_and,decide_eq_true h3];decide)]at he
 by_cases h4:b.h.txs=d.txs∧b.h.past=d.past∧b.h.work=d.work
 case neg=>
  rw[if_pos (show j9N b.h d=false from decide_eq_false h4)]at he
  rw[←he]
  exact x2z hK n1 h2 h3 h4
 rw[if_neg (by unfold j9N;rw[decide_eq_true h4];decide)]at he
 rw[q1l hK n1 h2 h3 h4]
 cases h5:j4U b.h with
 |false=>
  rw[if_pos h5]at he
  rw[if_pos rfl,←he]
 |true=>
  rw[if_neg (by rw[h5];decide)]at he
  cases he
theorem x20{t:TipR}{b:BlkR}{K:Hd}{d:Hd}{dl:List (List Int)}(hK:j05 t b.t b.h.nonce=K)(hd:d=K)(hl:dl=j0H t)(he:FK (decide (b.h.height<48)) (j9K b.h d) (decide (b.l=dl) && eqL b.h.links d.links) (j9N b.h d) (j4U b.h)=0):
  j2a t b=if (j0t t.c b.t).2≠0 then (t,(j0t t.c b.t).2)else (⟨b,j1A t.p (j0C b.h),(j0t t.c b.t).1⟩,0):=by
 subst hd hl
 unfold FK at he
 by_cases h1:b.h.height<48
 case neg=>rw[if_pos (decide_eq_false h1)]at he;cases he
 rw[if_neg (by rw[decide_eq_true h1];decide)]at he
 by_cases h2:b.h.height=d.height∧b.h.prev=d.prev∧b.h.bits=d.bits
 case neg=>rw[if_pos (show j9K b.h d=false from decide_eq_false h2)]at he;cases he
 rw[if_neg (by unfold j9K;rw[decide_eq_true h2];decide)]at he
 by_cases h3:b.l=j0H t∧b.h.links=d.links
 case neg=>rw[if_pos (by unfold eqL;rw[←Bool.decide_and];exact decide_eq_false h3)]at he;cases he
 rw[if_neg (by unfold eqL;rw[←Bool.decide_and,decide_eq_true h3];decide)]at he
 by_cases h4:b.h.txs=d.txs∧b.h.past=d.past∧b.h.work=d.work
 case neg=>rw[if_pos (show j9N b.h d=false from decide_eq_false h4)]at he;cases he
 rw[if_neg (by unfold j9N;rw[decide_eq_true h4];decide)]at he
 rw[q1l hK (by omega) h2 h3 h4]
 cases h5:j4U b.h with
 |false=>rw[if_pos h5]at he;cases he
 |true=>rw[if_neg (by decide)]
theorem j8z(t:TipM)(b:BlkM)(w:World)(kt:TipOk w t)(mt:j3f t)(kb:BlkOk w b)(mb:j2c b)(ht:Tables w):
  Calls Tryz.prog 36 #[j29 t,j1O b] w fun e w'=>(∃u:TipM,e= .returned (.tuple #[j29 u, .int .i64 ((j2a t.r b.r).2:Int)])∧IsTip (j2a t.r b.r).1 u w'∧((j2a t.r b.r).2=0→x39 (j2a t.r b.r).1 u w.heap.size w'))∧Below w.heap.size w w':=by
 have HLT:Hid (j0M t.b.h):=kt.b.h.len
 have HOB:Hid (okHd b.h):=kb.h
 have HLE:Hid (w.heap.size≤w.heap.size+1+1):=by show _≤_;omega
 have hm1:=kt.l3
 have hm4:=mt.2.1
 have hm5:=kb.l1
 have hm6:=mb.1
 have hm9:=mt.2.2.1
 have hm0:=kt.l4
 obtain⟨K,hK⟩: ∃K,j05 t.r b.r.t b.r.h.nonce=K:=⟨_,rfl⟩
 have hK':j05 t.r (rsT b.t) b.h.nonce=K:=hK
 have hKo:okHd K:=by rw[←hK];exact j9e (rsT b.t) (t:=t.r) kt.o3 kt.b.h.2.2.2.2.2.2.1 kb.h.2.2.2.2.2.2.2
 have HKQ:=hD hK
 have HOK:=hD hKo
 have HBH:Hid (∀u,EnvX w u []→j1T 75 #[j29 t, .slice b.A2 b.n2 b.c2, .int .u64 (b.h.nonce:Int)] u (q8I ⟨K,j0H t.r,rsT b.t⟩)):=fun u hu=>by rw[←hK'];exact q6l t b.t b.A2 b.n2 b.c2 b.h.nonce u (kt.up (EnvX.bel hu)) mt kb.l2 kb.b2.1 kb.b2.2 (kb.m2.up (EnvX.bel hu)) mb.2 kb.h.2.2.2.2.2.2.2 (ht.below (EnvX.bel hu))
 have HFT:Hid (∀(u:World)(d:BlkM),EnvX w u []→d.h=K→d.l=j0H t.r→BlkOk u d→Calls Tryz.prog 76 #[trV b d] u fun e w'=>e= .returned (.int .i64 (FK (decide (b.h.height<48)) (j9K b.h d.h) (decide (b.l=d.l) && eqL b.h.links d.h.links) (j9N b.h d.h) (j4U b.h):Int))∧Below u.heap.size u w'):=fun u d hu e1 e2 hd=>x3O b d u kb.h hd.h kb.l1 hd.l1 kb.b1 hd.b1 kb.o1 hd.o1 (by omega) (by have h:=hd.l1;rw[e2]at h;have:=j6e t.r;omega) (kb.m1.up (EnvX.bel hu)) hd.m1 (ht.below (EnvX.bel hu))
 have HCP:Hid (∀u,EnvX w u []→j1T 77 #[j29 t] u (x4O t.r)):=fun u hu=>x0m t u (kt.up (EnvX.bel hu)) mt
 have HCB:Hid (∀u,EnvX w u []→j1T 79 #[j1O b] u (q8I b.r)):=fun u hu=>j8Q b u (kb.up (EnvX.bel hu)) mb
 obtain⟨q,er,hap⟩: ∃q er,j0t t.c (rsT b.t)=(q,er):=⟨_,_,rfl⟩
 have HAP:Hid (j0t t.r.c b.r.t=(q,er)):=hap
 have HOQ:Hid (okP q):=q6V kt.o4 (rsT b.t) hap
 have HAPP:Hid (∀u,EnvX w u []→Calls Tryz.prog 78 #[.slice t.A4 t.n4 t.c4, .slice b.A2 b.n2 b.c2] u fun e w'=>(∃v,e= .returned (.tuple #[v, .int .i64 (er:Int)])∧x3q w' v q)∧Below u.heap.size u w'):=fun u hu=>by
  have h:=j7C t.c t.A4 t.n4 t.c4 b.t b.A2 b.n2 b.c2 u kt.l4 kt.b4.1 kt.b4.2 kt.o4 (CellsIn.up kt.m4 (EnvX.bel hu)) (by omega) kb.l2 kb.b2.1 kb.b2.2 (kb.m2.up (EnvX.bel hu)) (ht.below (EnvX.bel hu))
  rw[hap]at h
  exact h
 have HPA:Hid (∀u,EnvX w u []→Calls Tryz.prog 80 #[.slice t.A3 t.n3 t.c3,hdV b.h] u fun e w'=>(∃v,e= .returned v∧w'.ownsRow u.heap.size 61 37 v (j1A t.p (j0C b.h)).length (((j1A t.p (j0C b.h)).map j11).flatten))∧Below u.heap.size u w'):=fun u hu=>q0Z t.p t.A3 t.n3 t.c3 b.h u kt.l3 (by omega) kt.o3 (CellsIn.up kt.m3 (EnvX.bel hu)) kb.h (ht.below (EnvX.bel hu))
 have HOP:Hid (okTs (j1A t.p (j0C b.h))):=q2T kt.o3 (j5t _)
 have E1:Hid (EnvX w (((w.alloc (.cells (j0j t) 41)).alloc (.cells (j0L b) 37)).alloc (.cells (j0j noTipM) 41)) [(w.heap.size+1+1,oc (j0j noTipM) 41),(w.heap.size+1,oc (j0L b) 37),(w.heap.size,oc (j0j t) 41)]):=EnvX.three _ _ _
 clear kt mt kb mb ht hm1 hm4 hm5 hm6 hm9 hm0 hK hK' hKo hap
 unfold j29 j1O
 go_enter func36,ntmps36
 go_upto_region 1 with (fail)
 rw[←j2I]
 generalize ((w.alloc (.cells (j0j t) 41)).alloc (.cells (j0L b) 37)).alloc (.cells (j0j noTipM) 41)=W at *
 apply x4E (F:=fun(d:BlkM)(N1:j0e)(g6:Nat)(u:World)=>KeptA N1 (j5Q ⟨K,j0H t.r,rsT b.t⟩ d)∧(∃v,j5Q ⟨K,j0H t.r,rsT b.t⟩ d v)∧w.heap.size≤g6∧(∀y∈N1,w.heap.size≤y.1∧y.1≠w.heap.size+1+1)∧EnvX w u ((g6,oc (trA b d) 112)::(N1++[(w.heap.size+1+1,oc (j0j noTipM) 41),(w.heap.size+1,oc (j0L b) 37),(w.heap.size,oc (j0j t) 41)])))
 case h=>
  intro KONT
  refine rgK [0,1,2,3,4,5,6] 4 E1 rfl fun hw=>?_
  refine ql rfl (mT mH) HOB.out.len hw ?_
  refine ql rfl (mT (mT mH)) HLT.out hw ?_
  refine qf rfl hw ?_
  refine ql rfl (mT mH) HOB.out.len hw ?_
  refine qw 2 hw ?_
  refine qv rfl (fun u hu=>j0a u (j0B HOB.out.len (j02 hu (mT mH) HOB.out.len)).2.2.2.2.2.2.2.2 rfl) hw ?_
  refine j0b<|j2L (i:=7) (j:=9) (by kernel_rfl) ?_ ?_
  · skip
    refine qr rfl func75 (fun u hu=>HBH.out u (nl hu)) ?_
    rintro x N1 hF hf he2
    obtain⟨d,rfl,kd,kv⟩:=hF
    have HKD:=hD kd
    have HKV:=hD kv
    have HHD:Hid (d.h=K):=by obtain⟨v,hv⟩:=HKV.out;exact congrArg BlkR.h hv.1
    have HLD:Hid (j0M d.h):=by show j0M _;rw[HHD.out];exact HOK.out.len
    have HN1:Hid (∀y∈N1,w.heap.size≤y.1∧y.1≠w.heap.size+1+1):=fun y hy=>⟨(hf y hy).1,fun h=>(hf y hy).2 _ mH h.symm⟩
    clear kd kv
    clear hf
    refine phF [8] 2 rfl he2 fun hw=>?_
    refine qv (v:= .agg (trA b d)) rfl (fun u hu=>j0p u (q3B HOB.out.len HLD.out)) hw ?_
    refine j0b<|aO 9 (j0k (R:=fun x N=> ∃g,x= .pointer (some ⟨g,0,none⟩)∧N=[(g,oc (trA noBlkM noBlkM) 112)]) (M0:=(N1++((w.heap.size+1+1,oc (j0j noTipM) 41)::((w.heap.size+1,oc (j0L b) 37)::((w.heap.size,oc (j0j t) 41)::[]))))) rfl rfl (fun _ h=>h) (fun u hu=>j4k (x1k _) u) ?_)
    rintro _ _ ⟨g6,rfl,rfl⟩ hf he4;intro K' hK';go_big_quiet_op;go_big_quiet_on
    have HG6:=hD (hf _ (mS.2 rfl))
    have HGA:Hid (∀y∈N1++[(w.heap.size+1+1,oc (j0j noTipM) 41),(w.heap.size+1,oc (j0L b) 37),(w.heap.size,oc (j0j t) 41)],y.1≠g6):=fun y hy=>HG6.out.2 y hy
    clear hf
    change j1s _ _ _ _ _ _ _ _ ((g6,oc (trA noBlkM noBlkM) 112)::(N1++((w.heap.size+1+1,oc (j0j noTipM) 41)::((w.heap.size+1,oc (j0L b) 37)::((w.heap.size,oc (j0j t) 41)::[])))))
    refine aO 10 (j0z rfl (g6) (trA b d) rfl rfl HG6.out.1 112 ((trA noBlkM noBlkM)) mH (x1o _ (j4T HOB.out.len HLD.out)) ((j4T (b:=noBlkM) (d:=noBlkM) j1k j1k).trans (j4T HOB.out.len HLD.out).symm) (q8B _ _) ((g6,oc (trA b d) 112)::(N1++((w.heap.size+1+1,oc (j0j noTipM) 41)::((w.heap.size+1,oc (j0L b) 37)::((w.heap.size,oc (j0j t) 41)::[]))))) (mA ⟨.inl rfl,fun y hy=> .inr ⟨by first|exact mT hy|exact(List.mem_append.1 hy).elim (fun h=>mL h) (fun h=>mR (mT h)),HGA.out y hy⟩⟩) ?_)
    intro he5
    refine eM fun u7 EX6=>?_
    exact KONT d N1 g6 u7 ⟨HKD.out,HKV.out,HG6.out.1,HN1.out,EX6.out⟩
  · skip
    refine qn rfl (x1k _) fun g6 HG6 he8=>?_
    change j1s _ _ _ _ _ _ _ _ [(g6,oc (trA noBlkM noBlkM) 112),(w.heap.size+1+1,oc (j0j noTipM) 41),(w.heap.size+1,oc (j0L b) 37),(w.heap.size,oc (j0j t) 41)]
    refine aO 7 (qr rfl func75 (fun u hu=>HBH.out u (nl hu)) ?_)
    rintro x N1 hF hf he9
    obtain⟨d,rfl,kd,kv⟩:=hF
    have HKD:=hD kd
    have HKV:=hD kv
    have HHD:Hid (d.h=K):=by obtain⟨v,hv⟩:=HKV.out;exact congrArg BlkR.h hv.1
    have HLD:Hid (j0M d.h):=by show j0M _;rw[HHD.out];exact HOK.out.len
    have HN1:Hid (∀y∈N1,w.heap.size≤y.1∧y.1≠w.heap.size+1+1):=fun y hy=>⟨(hf y hy).1,fun h=>(hf y hy).2 _ (mT mH) h.symm⟩
    have HGA:Hid (∀y∈N1++[(w.heap.size+1+1,oc (j0j noTipM) 41),(w.heap.size+1,oc (j0L b) 37),(w.heap.size,oc (j0j t) 41)],y.1≠g6):=fun y hy=>(List.mem_append.1 hy).elim (fun h e=>(hf y h).2 _ mH e.symm) (fun h=>HG6.out.2 y h)
    clear kd kv
    clear hf
    refine phF [8] 1 rfl he9 fun hw=>?_
    refine qv (v:= .agg (trA b d)) rfl (fun u hu=>j0p u (q3B HOB.out.len HLD.out)) hw ?_
    refine j0b<|aO 10 (j0z rfl (g6) (trA b d) rfl rfl HG6.out.1 112 ((trA noBlkM noBlkM)) (mR mH) (x1o _ (j4T HOB.out.len HLD.out)) ((j4T (b:=noBlkM) (d:=noBlkM) j1k j1k).trans (j4T HOB.out.len HLD.out).symm) (q8B _ _) ((g6,oc (trA b d) 112)::(N1++((w.heap.size+1+1,oc (j0j noTipM) 41)::((w.heap.size+1,oc (j0L b) 37)::((w.heap.size,oc (j0j t) 41)::[]))))) (mA ⟨.inl rfl,fun y hy=> .inr ⟨by first|exact mT hy|exact(List.mem_append.1 hy).elim (fun h=>mL h) (fun h=>mR (mT h)),HGA.out y hy⟩⟩) ?_)
    intro he11
    refine eM fun u13 EX12=>?_
    exact KONT d N1 g6 u13 ⟨HKD.out,HKV.out,HG6.out.1,HN1.out,EX12.out⟩
 case k=>
 rintro d N1 g6 uk ⟨kd,kv,hg6,hN1,hEk⟩
 have HKD:=hD kd
 have HKV:=hD kv
 have HHD:Hid (d.h=K):=by obtain⟨v,hv⟩:=HKV.out;exact congrArg BlkR.h hv.1
 have HDL:Hid (d.l=j0H t.r):=by obtain⟨v,hv⟩:=HKV.out;exact congrArg BlkR.l hv.1
 have HLD:Hid (j0M d.h):=by show j0M _;rw[HHD.out];exact HOK.out.len
 have EK:=hD hEk
 clear kd kv hg6 hN1 hEk E1
 obtain⟨ef,hef⟩: ∃ef,FK (decide (b.h.height<48)) (j9K b.h d.h) (decide (b.l=d.l) && eqL b.h.links d.h.links) (j9N b.h d.h) (j4U b.h)=ef:=⟨_,rfl⟩
 have HEF:=hD hef
 have HFU:Hid (∀u,EnvX w u ((g6,oc (trA b d) 112)::(N1++((w.heap.size+1+1,oc (j0j noTipM) 41)::((w.heap.size+1,oc (j0L b) 37)::((w.heap.size,oc (j0j t) 41)::[])))))→Calls Tryz.prog 76 #[trV b d] u fun e w'=>e= .returned (.int .i64 (ef:Int))∧Below u.heap.size u w'):=fun u hu=>by
  have h:=HFT.out u d (nl hu) HHD.out HDL.out (HKD.out w u _ hu (fun y MEM=>(mT (mL MEM)))).2
  rw[hef]at h
  exact h
 clear hef HFT
 go_upto_region 2 with (fail)
 refine rgQ [0,1,2] [] EK rfl fun hw=>?_
 refine qv rfl (fun u hu=>j0a u (j4L hu mH HOB.out.len HLD.out) rfl) hw ?_
 refine qc rfl func76 (fun u hu=>HFU.out u hu) hw ?_
 refine qo rfl hw ?_
 refine enP fun u66 EX65=>?_
 cases ef with
 |succ e=>
  have DE:Hid (decide (((e+1:Nat):Int)≠0)=true):=decide_eq_true (by omega)
  go_upto_region 3 with (fail)
  refine rgQ [0,1] [] EX65 rfl fun hw=>?_
  refine qo rfl hw ?_
  refine qv rfl (fun u hu=>j1i u DE.out rfl rfl) hw ?_
  refine enP fun u69 EX68=>?_
  have HF:Hid (j2a t.r b.r=(t.r,e+1)):=x2s (b:=b.r) HKQ.out HHD.out HDL.out HEF.out
  go_upto_region 4 with (fail)
  refine rgQ [0] [1,2,3,4] EX68 rfl fun hw=>?_
  refine ql rfl (mT (mR (mT (mT mH)))) HLT.out hw ?_
  refine j0b<|qr rfl func77 (fun u hu=>HCP.out u (nl hu)) ?_
  rintro x N24 hF hf he71
  obtain⟨t24,rfl,kk,kv⟩:=hF
  have HKK:=hD kk
  have HKV:=hD kv
  have HN24:Hid (∀y∈N24,w.heap.size≤y.1∧y.1≠w.heap.size+1+1):=fun y hy=>⟨(hf y hy).1,fun h=>(hf y hy).2 _ (mT (mR mH)) h.symm⟩
  clear kk kv
  have HLU:Hid (j0M t24.b.h):=by obtain⟨v,hv⟩:=HKV.out;exact hv.2.b.h.len
  clear hf
  refine phE [2] [3,4] he71 fun hw=>?_
  refine qo rfl hw ?_
  refine j0b<|(j0z rfl (w.heap.size+1+1) (j0j t24) rfl rfl HLE.out 41 ((j0j noTipM)) (mR (mT (mR mH))) (j0K _ (j0m HLU.out)) (j0V HLU.out) (j0R _) ((w.heap.size+1+1,oc (j0j t24) 41)::(N24++[])) (mA ⟨.inl rfl,fun y hy=> .inr ⟨mL (by simpa using hy),(HN24.out y (by simpa using hy)).2⟩⟩) ?_)
  intro he73
  refine phE [4] [] he73 fun hw=>?_
  refine qo rfl hw ?_
  refine enP fun u76 EX75=>?_
  have HTT:Hid (IsTip t.r t24 u76):=HKK.out w u76 _ EX75.out (fun y hy=>mT (by simpa using hy))
  have Q0:=hD (EnvX.box EX75.out _ _ mH)
  have HBEL:=hD EX75.out.bel
  clear EX75
  go_wp2_with ((with_reducible refine bodyPost_ret (v:= .tuple #[.agg (j0j t24), .int .i64 ((e+1:Nat):Int)]) ?_ ?_ ?_);(exact j0v (p:=4) (q:=5) (ty:=41) results36 _ _ (w.heap.size+1+1) 41 (j0j t24) (0,0) _ rfl _ rfl Q0.out underlying41 rfl (j0K _ (j0m HLU.out)));(rfl))
  exact⟨⟨t24,by rw[HF.out]<;>first|rfl|exact⟨rfl,rfl⟩,by rw[HF.out];exact⟨HTT.out,fun h=>absurd h (Nat.succ_ne_zero _)⟩⟩,HBEL.out⟩
 |zero=>
  have DE:Hid (decide (((0:Nat):Int)≠0)=false):=decide_eq_false (by omega)
  go_upto_region 3 with (fail)
  refine rgQ [0,1] [] EX65 rfl fun hw=>?_
  refine qo rfl hw ?_
  refine qv rfl (fun u hu=>j1i u DE.out rfl rfl) hw ?_
  refine enP fun u69 EX68=>?_
  have HRE:=hD (x20 (t:=t.r) (b:=b.r) HKQ.out HHD.out HDL.out HEF.out)
  have E5:Hid (EnvX w u69 [(w.heap.size+1+1,oc (j0j noTipM) 41),(w.heap.size+1,oc (j0L b) 37),(w.heap.size,oc (j0j t) 41)]):=EnvX.sub EX68.out (fun y hy=>mT (mR (by simpa using hy)))
  clear EX68 HFU
  go_upto_region 5 with (fail)
  refine rgQ [0,1,2,3] [4,5,6,7,8,9] E5 rfl fun hw=>?_
  refine qf rfl hw ?_
  refine ql rfl (mT (mT mH)) HLT.out hw ?_
  refine qf rfl hw ?_
  refine ql rfl (mT mH) HOB.out.len hw ?_
  refine j0b<|(j0X (gd:=none) (R:=fun x M'=> ∃A c N,x= .tuple #[.slice A (q).length c, .int .i64 (er:Int)]∧M'=N++[(w.heap.size+1+1,oc (j0j noTipM) 41),(w.heap.size+1,oc (j0L b) 37),(w.heap.size,oc (j0j t) 41)]∧((q).length≤c∧c≤maxLen)∧CoB (q) A N) rfl rfl rfl rfl (fun u hu=>j0D (fid:=78) (xs:= #[.tmp 28, .tmp 30]) (args:= #[.slice t.A4 t.n4 t.c4, .slice b.A2 b.n2 b.c2]) rfl func78 rfl rfl u (q3Z (HAPP.out u (nl hu)) hu)) ?_)
  rintro _ _ ⟨A8,c8,N8,rfl,rfl,hc8,hb8⟩ he71;intro K' hK';go_big_quiet_op;go_big_quiet_on
  have HC8:=hD hc8
  have HB8:=hD hb8
  clear hc8 hb8
  refine phE [5,6,7,8,9] [] he71 fun hw=>?_
  refine qw 5 hw ?_
  refine enP fun u74 EX73=>?_
  cases er with
  | succ e=>
    have DF:Hid (decide (((e+1:Nat):Int)≠0)=true):=decide_eq_true (by omega)
    go_upto_region 6 with (fail)
    refine rgQ [0,1] [] EX73 rfl fun hw=>?_
    refine qo rfl hw ?_
    refine qv rfl (fun u hu=>j1i u DF.out rfl rfl) hw ?_
    refine enP fun u77 EX76=>?_
    have E6:Hid (EnvX w u77 [(w.heap.size+1+1,oc (j0j noTipM) 41),(w.heap.size+1,oc (j0L b) 37),(w.heap.size,oc (j0j t) 41)]):=EnvX.sub EX76.out (fun y hy=>mR (by simpa using hy))
    clear EX76
    have HF:Hid (j2a t.r b.r=(t.r,e+1)):=by show _=_;rw[HRE.out,HAP.out,if_pos (Nat.succ_ne_zero e)]
    go_upto_region 7 with (fail)
    refine rgQ [0] [1,2,3,4] E6 rfl fun hw=>?_
    refine ql rfl (mT (mT mH)) HLT.out hw ?_
    refine j0b<|qr rfl func77 (fun u hu=>HCP.out u (nl hu)) ?_
    rintro x N37 hF hf he79
    obtain⟨t37,rfl,kk,kv⟩:=hF
    have HKK:=hD kk
    have HKV:=hD kv
    have HN37:Hid (∀y∈N37,w.heap.size≤y.1∧y.1≠w.heap.size+1+1):=fun y hy=>⟨(hf y hy).1,fun h=>(hf y hy).2 _ mH h.symm⟩
    clear kk kv
    have HLU:Hid (j0M t37.b.h):=by obtain⟨v,hv⟩:=HKV.out;exact hv.2.b.h.len
    clear hf
    refine phE [2] [3,4] he79 fun hw=>?_
    refine qo rfl hw ?_
    refine j0b<|(j0z rfl (w.heap.size+1+1) (j0j t37) rfl rfl HLE.out 41 ((j0j noTipM)) (mR mH) (j0K _ (j0m HLU.out)) (j0V HLU.out) (j0R _) ((w.heap.size+1+1,oc (j0j t37) 41)::(N37++[])) (mA ⟨.inl rfl,fun y hy=> .inr ⟨mL (by simpa using hy),(HN37.out y (by simpa using hy)).2⟩⟩) ?_)
    intro he81
    refine phE [4] [] he81 fun hw=>?_
    refine qo rfl hw ?_
    refine enP fun u84 EX83=>?_
    have HTT:Hid (IsTip t.r t37 u84):=HKK.out w u84 _ EX83.out (fun y hy=>mT (by simpa using hy))
    have Q0:=hD (EnvX.box EX83.out _ _ mH)
    have HBEL:=hD EX83.out.bel
    clear EX83
    go_wp2_with ((with_reducible refine bodyPost_ret (v:= .tuple #[.agg (j0j t37), .int .i64 ((e+1:Nat):Int)]) ?_ ?_ ?_);(exact j0v (p:=4) (q:=5) (ty:=41) results36 _ _ (w.heap.size+1+1) 41 (j0j t37) (0,0) _ rfl _ rfl Q0.out underlying41 rfl (j0K _ (j0m HLU.out)));(rfl))
    exact⟨⟨t37,by rw[HF.out]<;>first|rfl|exact⟨rfl,rfl⟩,by rw[HF.out];exact⟨HTT.out,fun h=>absurd h (Nat.succ_ne_zero _)⟩⟩,HBEL.out⟩
  | zero=>
    have DF:Hid (decide (((0:Nat):Int)≠0)=false):=decide_eq_false (by omega)
    go_upto_region 6 with (fail)
    refine rgQ [0,1] [] EX73 rfl fun hw=>?_
    refine qo rfl hw ?_
    refine qv rfl (fun u hu=>j1i u DF.out rfl rfl) hw ?_
    refine enP fun u77 EX76=>?_
    have HF:Hid (j2a t.r b.r=(⟨b.r,j1A t.p (j0C b.h),q⟩,0)):=by show _=_;rw[HRE.out,HAP.out,if_neg (fun h=>h rfl)];rfl
    obtain⟨N9,hb9,hn9⟩:=CoB.apart HB8.out HOQ.out EX76.out (fun y MEM=>(mL MEM)) (mR mH) q6f
    have HB9:=hD hb9
    have HN9:=hD hn9
    have E9:Hid (EnvX w u77 (N9++((w.heap.size+1+1,oc (j0j noTipM) 41)::((w.heap.size+1,oc (j0L b) 37)::((w.heap.size,oc (j0j t) 41)::[]))))):=EnvX.sub EX76.out (fun y hy=>by
     rcases List.mem_append.1 hy with h|h
     · exact mL (HN9.out y h).1
     · exact mR h)
    clear EX76 hb9 hn9
    go_upto_region 8 with (fail)
    refine rgK [0,2,3,4,5,7] 5 E9 rfl fun hw=>?_
    refine ql rfl (mR (mT mH)) HOB.out.len hw ?_
    refine qf rfl hw ?_
    refine ql rfl (mR (mT (mT mH))) HLT.out hw ?_
    refine qf rfl hw ?_
    refine qv rfl (fun u hu=>j0a u (j0B HOB.out.len (j02 hu (mR (mT mH)) HOB.out.len)).1 rfl) hw ?_
    refine qo rfl hw ?_
    refine j0b<|aO 1 (qr rfl func79 (fun u hu=>HCB.out u (nl hu)) ?_)
    rintro x N1b hF hf he79
    obtain⟨b2,rfl,kk,kv⟩:=hF
    have HKK2:=hD kk
    have HKV2:=hD kv
    have HN1b:Hid (∀y∈N1b,w.heap.size≤y.1∧y.1≠w.heap.size+1+1):=fun y hy=>⟨(hf y hy).1,fun h=>(hf y hy).2 _ (mR mH) h.symm⟩
    clear kk kv
    have HLB2:Hid (j0M b2.h):=by obtain⟨v,hv⟩:=HKV2.out;exact hv.2.h.len
    clear hf
    change j1s _ _ _ _ _ _ _ _ (N1b++(N9++((w.heap.size+1+1,oc (j0j noTipM) 41)::((w.heap.size+1,oc (j0L b) 37)::((w.heap.size,oc (j0j t) 41)::[])))))
    refine aO 6 (qr rfl func80 (fun u hu=>j0i (HPA.out u (nl hu))) ?_)
    rintro x N6 hF hf he80
    obtain⟨A17,c17,rfl,k1,k2⟩:=FreshR.formR hF
    have HF6:=hD (And.intro hF (And.intro k1 k2))
    have HN6:Hid (∀y∈N6,w.heap.size≤y.1∧y.1≠w.heap.size+1+1):=fun y hy=>⟨(hf y hy).1,fun h=>(hf y hy).2 _ (mR (mR mH)) h.symm⟩
    clear hF k1 k2
    clear hf
    refine phF [8] 2 rfl he80 fun hw=>?_
    refine qv (v:= .agg (j0j ⟨b2,j1A t.p (j0C b.h),A17,(j1A t.p (j0C b.h)).length,c17,q,A8,q.length,c8⟩)) rfl (fun u hu=>j0p u (q0k (t:=⟨b2,j1A t.p (j0C b.h),A17,(j1A t.p (j0C b.h)).length,c17,q,A8,q.length,c8⟩) HLB2.out)) hw ?_
    refine j0b<|aO 9 (j0z rfl (w.heap.size+1+1) (j0j ⟨b2,j1A t.p (j0C b.h),A17,(j1A t.p (j0C b.h)).length,c17,q,A8,q.length,c8⟩) rfl rfl HLE.out 41 ((j0j noTipM)) (mR (mR (mR mH))) (j0K _ (j0m (t:=⟨b2,j1A t.p (j0C b.h),A17,(j1A t.p (j0C b.h)).length,c17,q,A8,q.length,c8⟩) HLB2.out)) (j0V (t:=⟨b2,j1A t.p (j0C b.h),A17,(j1A t.p (j0C b.h)).length,c17,q,A8,q.length,c8⟩) HLB2.out) (j0R _) ((w.heap.size+1+1,oc (j0j ⟨b2,j1A t.p (j0C b.h),A17,(j1A t.p (j0C b.h)).length,c17,q,A8,q.length,c8⟩) 41)::(N6++(N1b++(N9++[])))) (mA ⟨.inl rfl,fun y hy=> .inr ((List.mem_append.1 hy).elim (fun h=>⟨mL h,(HN6.out y h).2⟩) (fun hy=>(List.mem_append.1 hy).elim (fun h=>⟨mR (mL h),(HN1b.out y h).2⟩) (fun h=>⟨mR (mR (mL (by simpa using h))),(HN9.out y (by simpa using h)).2⟩)))⟩) ?_)
    intro he82
    refine phF [10] 0 rfl he82 fun hw=>?_
    refine qo rfl hw ?_
    refine eH fun u85 EX84=>?_
    have HTT:Hid (IsTip ⟨b.r,j1A t.p (j0C b.h),q⟩ ⟨b2,j1A t.p (j0C b.h),A17,(j1A t.p (j0C b.h)).length,c17,q,A8,q.length,c8⟩ u85):=by
     have hb:=HKK2.out w u85 _ EX84.out (fun y hy=>mT (mR (mL hy)))
     exact⟨by show TipR.mk b2.r _ _=TipR.mk b.r _ _;rw[hb.1],⟨hb.2,rfl,HF6.out.2,HOP.out,j5m HF6.out.1 rfl HOP.out (fun y hy=>EnvX.box EX84.out _ _ (mT (mL hy))),rfl,HC8.out,HOQ.out,CoB.read HB9.out EX84.out (fun y hy=>mT (mR (mR (by simpa using hy))))⟩⟩
    have HM6:Hid (∀y∈N6,y∈((w.heap.size+1+1,oc (j0j ⟨b2,j1A t.p (j0C b.h),A17,(j1A t.p (j0C b.h)).length,c17,q,A8,q.length,c8⟩) 41)::(N6++(N1b++(N9++[]))))):=fun y hy=>mT (mL hy)
    have HM1:Hid (∀y∈N1b,y∈((w.heap.size+1+1,oc (j0j ⟨b2,j1A t.p (j0C b.h),A17,(j1A t.p (j0C b.h)).length,c17,q,A8,q.length,c8⟩) 41)::(N6++(N1b++(N9++[]))))):=fun y hy=>mT (mR (mL hy))
    have HM9:Hid (∀y∈N9,y∈((w.heap.size+1+1,oc (j0j ⟨b2,j1A t.p (j0C b.h),A17,(j1A t.p (j0C b.h)).length,c17,q,A8,q.length,c8⟩) 41)::(N6++(N1b++(N9++[]))))):=fun y hy=>mT (mR (mR (by simpa using hy)))
    have HSP:Hid (x39 ⟨b.r,j1A t.p (j0C b.h),q⟩ ⟨b2,j1A t.p (j0C b.h),A17,(j1A t.p (j0C b.h)).length,c17,q,A8,q.length,c8⟩ w.heap.size u85):=⟨N1b++N6,N9,fun w0 u M hu hM=>⟨HKK2.out w0 u M hu (fun y hy=>hM y (mL hy)),q0b HF6.out.1 rfl HOP.out w0 u M hu (fun y hy=>hM y (mR hy))⟩,HB9.out,fun y hy=>(List.mem_append.1 hy).elim (fun h=>⟨(HN1b.out y h).1,EnvX.box EX84.out _ _ (HM1.out y h)⟩) (fun h=>⟨(HN6.out y h).1,EnvX.box EX84.out _ _ (HM6.out y h)⟩),fun y hy=>EnvX.box EX84.out _ _ (HM9.out y hy)⟩
    have Q0:=hD (EnvX.box EX84.out _ _ mH)
    have HBEL:=hD EX84.out.bel
    clear EX84
    go_wp2_with ((with_reducible refine bodyPost_ret (v:= .tuple #[.agg (j0j ⟨b2,j1A t.p (j0C b.h),A17,(j1A t.p (j0C b.h)).length,c17,q,A8,q.length,c8⟩), .int .i64 0]) ?_ ?_ ?_);(exact j0v (p:=4) (q:=5) (ty:=41) results36 _ _ (w.heap.size+1+1) 41 (j0j ⟨b2,j1A t.p (j0C b.h),A17,(j1A t.p (j0C b.h)).length,c17,q,A8,q.length,c8⟩) (0,0) _ rfl _ rfl Q0.out underlying41 rfl (j0K _ (j0m (t:=⟨b2,j1A t.p (j0C b.h),A17,(j1A t.p (j0C b.h)).length,c17,q,A8,q.length,c8⟩) HLB2.out)));(rfl))
    exact⟨⟨⟨b2,j1A t.p (j0C b.h),A17,(j1A t.p (j0C b.h)).length,c17,q,A8,q.length,c8⟩,by rw[HF.out]<;>first|rfl|exact⟨rfl,rfl⟩,by rw[HF.out];exact⟨HTT.out,fun _=>HSP.out⟩⟩,HBEL.out⟩
theorem q4P(t:TipM)(b:BlkM)(w:World)(kt:TipOk w t)(mt:j3f t)(kb:BlkOk w b)(mb:j2c b)(ht:Tables w):
  Calls Tryz.prog 36 #[j29 t,j1O b] w fun e w'=>(∃u:TipM,e= .returned (.tuple #[j29 u, .int .i64 ((j2a t.r b.r).2:Int)])∧IsTip (j2a t.r b.r).1 u w')∧Below w.heap.size w w':=
 (j8z t b w kt mt kb mb ht).mono fun e w'⟨⟨u,h1,h2,_⟩,h3⟩=>⟨⟨u,h1,h2⟩,h3⟩
theorem q1t{P:Program}{a:Act}{dst:Option Tmp}{ty:TypeId}{pos:String}{after:Array Edge}{gd:Option (Nat × Bool)}{R:Value→j0e→Prop}{f:FuncId}{x:Operand}{xs:Array Operand}{ats:Array TypeId}{fn:Func}{c:Code}{args caps all:Array Value}
  (hx:a.eval x= .func (.func f) #[] caps) (hargs:xs.toList.map a.eval=args.toList) (hall:args.toList++caps.toList=all.toList) (hfn:P.funcs[f]?=some fn) (hname:(fn.name== "runtime.NumGoroutine")=false) (hb:fn.body=some c) (u:World)
  (hc:Calls P f all u (fun e w''=> ∃x N,e= .returned x∧R x N∧Below u.heap.size u w''∧ ∀y∈N,u.heap.size≤y.1∧w''.heap[y.1]?=some y.2)):
  FAt P ⟨dst, .call {callee:= .value x,args:=xs,argTypes:=ats},ty,pos,after,gd⟩ a R u:=by
 unfold FAt
 rw[q1m hx hargs hall hfn hname hb u]
 exact⟨rfl,hc⟩
section
variable {st e:TypeId}{bytes:Nat}{zero:Value}
theorem q1Z(T:ElemT st e 1 bytes zero)(x:Value)(hx:x.cells= #[x])(u:World):(Instr.buildSlice st 1 #[(0,x)]).run Tryz.prog u= .ok (.slice (some ⟨u.heap.size,0,none⟩) 1 1) (u.alloc (.cells #[x] e)):=by
 cases hq:Tryz.prog.info? e with
 |none=>have:=T.info;rw[hq]at this;cases this
 | some i=>
  have hi:=T.info
  rw[hq]at hi
  simp only[Option.map_some,Option.some.injEq,Prod.mk.injEq]at hi
  obtain⟨k1,k2,k3⟩:=hi
  have hsm:=T.small
  have hpz:=T.pos
  refine run_buildSlice u st e 1 _ #[x] i zero T.und hq k1 (by omega) (by omega) ?_
  rw[k2]
  have hf:=Great.fill_whole (s:=1) T.pos [x] ((Array.range (1*1)).map (zero.cells[· % zero.cells.size]!)) (by
   intro v hv
   cases mS.1 hv
   rw[hx];rfl) (by simp)
  simpa [hx] using hf
theorem q2l(T:ElemT st e 1 bytes zero){x:Value}(hx:x.cells= #[x]){a:Act}{dst:Option Tmp}{p:Operand}{ty:TypeId}{pos:String}{after:Array Edge}{gd:Option (Nat × Bool)}(hp:a.eval p=x)(u:World):
  FAt Tryz.prog ⟨dst, .buildSlice st 1 #[(0,p)],ty,pos,after,gd⟩ a (j2R e [x]) u:=by
 unfold FAt execOp
 simp only[List.map_toArray,List.map_cons,List.map_nil,hp,Sem.run_bind,Sem.run_pure,q1Z T x hx u,Result.andThen_ok]
 refine⟨(Below.refl _ _).alloc (Nat.le_refl _) _,_,⟨_,rfl,rfl⟩,fun y hy=>?_⟩
 cases mS.1 hy
 exact⟨Nat.le_refl _,heap_alloc_new u _⟩
variable {z:Nat}
theorem j42(T:ElemT st e z bytes zero){n:Nat}(hn:n≤1000000){a:Act}{dst:Option Tmp}{x:Operand}{ty:TypeId}{pos:String}{after:Array Edge}{gd:Option (Nat × Bool)}(hx:a.eval x= .int .i64 (n:Int))(u:World):
  FAt Tryz.prog ⟨dst, .makeSlice st (.const (.int .i64 0)) x,ty,pos,after,gd⟩ a (fun v N=> ∃g cur,v= .slice (some ⟨g,0,none⟩) 0 n∧N=[(g,oc cur e)]∧cur.size=n*z) u:=by
 cases hq:Tryz.prog.info? e with
 |none=>have:=T.info;rw[hq]at this;cases this
 |some i=>
  have hi:=T.info
  rw[hq]at hi
  simp only[Option.map_some,Option.some.injEq,Prod.mk.injEq]at hi
  obtain⟨k1,k2,k3⟩:=hi
  have hsm:=T.small
  have hmul:bytes*n≤1000*1000000:=Nat.mul_le_mul hsm hn
  have hr:=run_make (P:=Tryz.prog) u st e i zero T.und hq k1 .i64 .i64 0 (n:Int) (by omega) (by omega) (by rw[k3,←Int.natCast_mul];omega) (by omega)
  have ha0:a.eval (.const (.int .i64 0))= .int .i64 0:=rfl
  unfold FAt execOp
  simp only[hx,ha0,Sem.run_bind,Sem.run_pure,hr,Result.andThen_ok]
  refine⟨(Below.refl _ _).alloc (Nat.le_refl _) _,[(u.heap.size,oc (madeCells zero.cells ((n:Int).toNat*i.size)) e)],⟨u.heap.size,madeCells zero.cells ((n:Int).toNat*i.size),rfl,rfl,?_⟩,fun y hy=>?_⟩
  · rw[size_madeCells,k2]
    simp
  · cases mS.1 hy
    exact⟨Nat.le_refl _,heap_alloc_new u _⟩
end
theorem j13:ElemT 22 37 137 232 (.agg (j0L noBlkM)):=⟨underlying22,by kernel_rfl,j0O j1k,by decide,by decide,by decide⟩
def CopB(l q:List BlkM)(N:j0e):Prop:= ∀j,j<q.length→(q.getD j noBlkM).r=(l.getD j noBlkM).r∧KeptA N (fun u=>BlkOk u (q.getD j noBlkM))
theorem q0M{α:Type}(q:List α)(t d:α)(j:Nat)(hj:j<(q++[t]).length):(j<q.length∧(q++[t]).getD j d=q.getD j d)∨(j=q.length∧(q++[t]).getD j d=t):=by
 rw[lA,List.length_singleton]at hj
 rcases Nat.lt_or_ge j q.length with h|h
 · exact .inl ⟨h,by rw[gD,List.getElem?_append_left h,gD]⟩
 · obtain rfl:j=q.length:=by omega
   exact .inr ⟨rfl,by rw[gD,List.getElem?_append_right (Nat.le_refl _),Nat.sub_self];rfl⟩
theorem CopB.step{l q:List BlkM}{N N':j0e}{t:BlkM}(h:CopB l q N)(hr:t.r=(l.getD q.length noBlkM).r)(hk:KeptA N' (fun u=>BlkOk u t))(hN: ∀y∈N,y∈N'):CopB l (q++[t]) N':=fun j hj=>by
 rcases q0M q t noBlkM j hj with ⟨h1,h2⟩|⟨h1,h2⟩
 · rw[h2]
   exact⟨(h j h1).1,(h j h1).2.mono hN⟩
 · rw[h2,h1]
   exact⟨hr,hk⟩
theorem CopB.done{l q:List BlkM}{N:j0e}(h:CopB l q N)(hl:q.length=l.length):rsB q=rsB l∧ ∀t∈q,KeptA N (fun u=>BlkOk u t):=by
 refine⟨?_,fun t ht=>?_⟩
 · unfold rsB
   refine List.ext_getElem (by rw[lM,lM,hl]) fun j h1 h2=>?_
   rw[lM]at h1 h2
   have e:=(h j h1).1
   rw[gD,gD,gE h1,gE h2]at e
   rw[List.getElem_map,List.getElem_map]
   exact e
 · obtain⟨j,hj,rfl⟩:=List.getElem_of_mem ht
   have e:=(h j hj).2
   rw[gD,gE hj]at e
   exact e
def CopT(l q:List TxM)(N:j0e):Prop:= ∀j,j<q.length→(q.getD j j0A).r=(l.getD j j0A).r∧KeptA N (fun u=>TxOk u (q.getD j j0A))
theorem CopT.step{l q:List TxM}{N N':j0e}{t:TxM}(h:CopT l q N)(hr:t.r=(l.getD q.length j0A).r)(hk:KeptA N' (fun u=>TxOk u t))(hN: ∀y∈N,y∈N'):CopT l (q++[t]) N':=fun j hj=>by
 rcases q0M q t j0A j hj with ⟨h1,h2⟩|⟨h1,h2⟩
 · rw[h2]
   exact⟨(h j h1).1,(h j h1).2.mono hN⟩
 · rw[h2,h1]
   exact⟨hr,hk⟩
theorem CopT.done{l q:List TxM}{N:j0e}(h:CopT l q N)(hl:q.length=l.length):rsT q=rsT l∧ ∀t∈q,KeptA N (fun u=>TxOk u t):=by
 refine⟨?_,fun t ht=>?_⟩
 · unfold rsT
   refine List.ext_getElem (by rw[lM,lM,hl]) fun j h1 h2=>?_
   rw[lM]at h1 h2
   have e:=(h j h1).1
   rw[gD,gD,gE h1,gE h2]at e
   rw[List.getElem_map,List.getElem_map]
   exact e
 · obtain⟨j,hj,rfl⟩:=List.getElem_of_mem ht
   have e:=(h j hj).2
   rw[gD,gE hj]at e
   exact e
def RTx(r:TxR)(x:Value)(N:j0e):Prop:= ∃t,x=txV t∧t.r=r∧KeptA N (fun u=>TxOk u t)
def x2q(r:List BlkR)(n:Nat)(x:Value)(N0:j0e):Prop:= ∃q Nx N,N0=Nx++N∧q.length=n∧rsB q=r∧FreshR 37 137 n (q.map j04).flatten x Nx∧(∀y∈N,∀z∈Nx,y.1≠z.1)∧ ∀t∈q,KeptA N (fun u=>BlkOk u t)
theorem j3X{f:FuncId}{args:Array Value}{u w0:World}{M:j0e}{R:Value→j0e→Prop}(h:j1T f args u R)(hu:EnvX w0 u M):
   Calls Tryz.prog f args u fun e w'=> ∃x M',e= .returned x∧EnvX w0 w' M'∧ ∃N,R x N∧M'=N++M∧ ∀y∈N,w0.heap.size≤y.1∧ ∀z∈M,z.1≠y.1:=by
 unfold j1T at h
 refine h.mono fun e w'⟨x,N,he,hR,hb,hN⟩=>?_
 have hE:=EnvX.below hu hb
 refine⟨x,N++M,he,⟨hE.bel,fun g o hm=>?_⟩,N,hR,rfl,fun y hy=>⟨Nat.le_trans (EnvX.bel hu).size (hN y hy).1,fun z hz e=>?_⟩⟩
 · rcases List.mem_append.1 hm with h|h
   · exact(hN (g,o) h).2
   · exact hE.box g o h
 · have h1:=hu.lt (g:=z.1) (o:=z.2) hz
   have h2:=(hN y hy).1
   omega
theorem q4T(t:TipM): ∀(k:Nat)(i:Int),32≤k→(j0j t)[k]?≠some (.int .i64 i):=by
 intro k i hk e
 obtain⟨k,rfl⟩: ∃j,k=j+1:=⟨k- 1,by omega⟩
 have e':(q1v t)[k+1]?=some (.int .i64 i):=by unfold j0j at e;rwa[List.getElem?_toArray]at e
 unfold q1v j04 hdC at e'
 simp only[aA,List.singleton_append,List.cons_append,List.nil_append,List.getElem?_cons_succ]at e'
 have hm:=List.mem_of_getElem? e'
 have ha: ∀l:List Int,Value.int .i64 i∉ (j0d 32 l).toList:=fun l h=>by
  unfold j0d u8v at h
  simp at h
 have hw: ∀n:Nat,Value.int .i64 i∉ (wcs n).toList:=fun n h=>by
  unfold wcs j2b x4o at h
  simp at h
 simp only[List.mem_append,List.mem_cons,List.not_mem_nil,or_false]at hm
 rcases hm with h|h|h|h|h|h|h|h|h|h|h<;>first|exact ha _ h|exact hw _ h|cases h
theorem q72{l:List BlkM}{i:Nat}(h:i<l.length):(rsB l).getD i j4f=(l.getD i noBlkM).r:=j5O h
theorem x25{l q:List BlkM}(hl:l.length=q.length)(h: ∀j,j<l.length→(l.getD j noBlkM).r=(q.getD j noBlkM).r):rsB l=rsB q:=by
 unfold rsB
 refine List.ext_getElem (by rw[lM,lM,hl]) fun j h1 h2=>?_
 rw[lM]at h1 h2
 have:=h j h1
 rw[gD,gD,gE h1,gE h2]at this
 rw[List.getElem_map,List.getElem_map]
 exact this
theorem q6Q{l:List BlkM}{id:List Int}{k:Nat}(hk:k<l.length)(h:decide (idH (l.getD k noBlkM).h=id)=true)(hn: ∀j,j<k→decide (idH (l.getD j noBlkM).h=id)=false):j4Q (rsB l) id=(k:Int):=by
 refine q8b _ id k (by rw[j3a];exact hk) (fun j hj=>?_) ?_
 · rw[j5O (show j<l.length by omega)]
   exact of_decide_eq_false (hn j hj)
 · rw[j5O hk]
   exact of_decide_eq_true h
theorem q4H{l:List BlkM}{id:List Int}(hn: ∀j,j<l.length→decide (idH (l.getD j noBlkM).h=id)=false):j4Q (rsB l) id= -1:=by
 refine q0n _ id (fun j hj=>?_)
 rw[j3a]at hj
 rw[j5O hj]
 exact of_decide_eq_false (hn j hj)
theorem x1W(y:BlkM)(id:List Int)(gx:Nat)(w:World)(hy:BlkOk w y)(hid:j3C id)(ht:Tables w)(hg:w.heap[gx]?=some (.cells (j0d 32 id) 26 (0,0))):
  Rz 61 #[j1O y, .pointer (some ⟨gx,0,none⟩)] w (.bool (decide (idH y.h=id))):=by
 unfold Rz
 have HX:=hD hid
 have HOB:Hid (okHd y.h):=hy.h
 have HIY:Hid ((idH y.h).length=32):=(j4D y.h).1
 have HID:Hid (Rt w 32 #[hdV y.h] (idv (idH y.h))):=fun u hu=>j5p y.h u hy.h (ht.below (EnvX.bel hu))
 have E0:EnvX w w [(gx,oc (j0d 32 id) 26)]:=⟨Below.refl _ _,fun g o hm=>by cases mS.1 hm;exact hg⟩
 have E1:Hid (EnvX w (w.alloc (.cells (j0L y) 37)) [(w.heap.size,oc (j0L y) 37),(gx,oc (j0d 32 id) 26)]):=E0.new _
 obtain⟨b,hb⟩: ∃b,decide (idH y.h=id)=b:=⟨_,rfl⟩
 have HEQ:Hid (eqL (idH y.h) id=b):=hb
 have HF:=hD hb
 clear hy hid ht hg E0 hb
 generalize idH y.h=iy at *
 unfold j1O
 go_enter func61,ntmps61
 go_upto_region 1 with (fail)
 generalize w.alloc (.cells (j0L y) 37)=W at *
 refine rgK [0,1,2,3,4,5] 0 E1 rfl fun hw=>?_
 refine qf rfl hw ?_
 refine qv rfl (fun u hu=>j0a u (j0B HOB.out.len (j02 hu mH HOB.out.len)).1 rfl) hw ?_
 refine qc rfl func32 (fun u hu=>HID.out u (nl hu)) hw ?_
 refine qv rfl (fun u hu=>j1f u (j21 hu (mT mH) HX.out.1) rfl) hw ?_
 refine qv rfl (fun u hu=>j6n HIY.out HX.out.1 HEQ.out u rfl rfl) hw ?_
 refine qo rfl hw ?_
 refine eH fun u3 EX2=>?_
 have HBE:=hD (EnvX.bel EX2.out)
 go_wp2
 go_ret
 exact⟨by rw[HF.out];first|done|rfl,HBE.out⟩
theorem x1K(l:List BlkM)(A:Option Addr)(n c:Nat)(id:List Int)(gx:Nat)(w:World)(hl:l.length=n)(hn:n≤100000)(hA:BlksIn w A l)
  (hf: ∀u,Below w.heap.size w u→ ∀y,BlkOk w y→Calls Tryz.prog 61 #[j1O y, .pointer (some ⟨gx,0,none⟩)] u fun e w'=>e= .returned (.bool (decide (idH y.h=id)))∧Below u.heap.size u w'):
  Calls Tryz.prog 60 #[.slice A n c, .func (.func 61) #[] #[.pointer (some ⟨gx,0,none⟩)]] w fun e w'=>e= .returned (.int .i64 (j4Q (rsB l) id))∧Below w.heap.size w w':=by
 have HL:=hD hl
 have HN63:Hid (n<9223372036854775808):=by show _<_;omega
 have HAA:=hD hA
 have HFN:=hD hf
 have E1:Hid (EnvX w w []):=EnvX.start w
 clear hl hn hA hf
 go_enter func60,ntmps60
 go_upto_region 1 with (fail)
 refine rgQ [0,1,2] [] E1 rfl fun hw=>?_
 refine qo rfl hw ?_
 refine qv rfl (fun u hu=>j0l underlying22 HN63.out u rfl) hw ?_
 refine qo rfl hw ?_
 refine enP fun u3 EX2=>?_
 go_upto_region 2 with (fail)
 go_loopw [8] (fun iv u=> ∃i:Nat,i≤n∧iv= .int .i64 (i:Int)∧Hid ((∀j,j<i→decide (idH (l.getD j noBlkM).h=id)=false)∧EnvX w u [])) (fun iv _=>n- (intOf iv).toNat)
 case atStart=>exact⟨0,by omega,rfl,(fun j hj=>by omega),EX2.out⟩
 case round=>
  obtain⟨i,hi,rfl,hinv⟩:=hrel
  have H1:=hD hinv.out.1
  have EK:=hD hinv.out.2
  clear hinv EX2 E1
  by_cases hlt:i<n
  · have C2:Hid (decide ((i:Int)<(n:Int))=true):=decide_eq_true (by omega)
    have HI:=hD hlt
    have hil:i<l.length:=by rw[HL.out];exact hlt
    have HIL:=hD hil
    obtain⟨ad,rfl,-,hld⟩:=HAA.out.loads hil
    have HLD:Hid (∀u,EnvX w u []→(loadVar 37 (ad.add (i*137))).run Tryz.prog u= .ok (j1O (l.getD i noBlkM)) u):=fun u hu=>(hld u hu).1
    have HTX:=hD (HAA.out.get hil)
    obtain⟨y,hy⟩: ∃y,l.getD i noBlkM=y:=⟨_,rfl⟩
    rw[hy]at HLD HTX
    have HYE:=hD hy
    obtain⟨b,hb⟩: ∃b,decide (idH y.h=id)=b:=⟨_,rfl⟩
    have HBV:=hD hb
    have HBF:Hid (Rb w 61 #[j1O y, .pointer (some ⟨gx,0,none⟩)] (.bool b)):=fun u hu=>by
     have h:=HFN.out u hu y HTX.out
     rwa[hb]at h
    clear hld hil hlt hy hb
    go_upto_region 2 with (fail)
    refine rgQ [0] [] EK rfl fun hw=>?_
    refine qv rfl (fun u hu=>j0o u C2.out rfl rfl) hw ?_
    refine enP fun u33 EX32=>?_
    go_upto_region 3 with (fail)
    refine rgQ [0,1] [] EX32 rfl fun hw=>?_
    refine qw 2 hw ?_
    refine enP fun u36 EX35=>?_
    cases b with
    |true=>
     have HF:Hid (j4Q (rsB l) id=(i:Int)):=q6Q HIL.out (by rw[HYE.out];exact HBV.out) H1.out
     go_upto_region 4 with (fail)
     refine rgP [0,1,2,3,4,5] [] EX35 rfl ?_;intro hw37 hone
     iterate 3 refine qo rfl ⟨_,hw37⟩ ?_
     refine qv rfl (fun u hu=>j0h underlying22 aggBlk.size HI.out u rfl rfl) ⟨_,hw37⟩ ?_
     refine qv rfl (fun u hu=>j0a u (HLD.out u (nl hu)) rfl) ⟨_,hw37⟩ ?_
     (refine j0I (f:=61) (args:= #[j1O y]) (caps:= #[.pointer (some ⟨gx,0,none⟩)]) (all:= #[j1O y, .pointer (some ⟨gx,0,none⟩)]) (v:= .bool true) rfl rfl rfl rfl rfl func61 rfl rfl (fun u hu=>HBF.out u (EnvX.bel hu)) ?_ hw37;intro K hK;go_big_quiet_op;go_big_quiet_on)
     clear hone hw37;refine enP fun u39 EX38=>?_
     go_upto_region 5 with (fail)
     refine rgQ [0,1] [] EX38 rfl fun hw=>?_
     refine qw 2 hw ?_
     refine enP fun u42 EX41=>?_
     have HBE:=hD (EnvX.bel EX41.out)
     go_wp2
     go_ret
     exact⟨by rw[HF.out];first|done|rfl,HBE.out⟩
    | false=>
     have H3:Hid (∀j,j<i+1→decide (idH (l.getD j noBlkM).h=id)=false):=fun j hj=>by
      rcases Nat.lt_or_ge j i with h|h
      · exact H1.out j h
      · rw[show j=i by omega,HYE.out];exact HBV.out
     go_upto_region 4 with (fail)
     refine rgP [0,1,2,3,4,5] [] EX35 rfl ?_;intro hw37 hone
     iterate 3 refine qo rfl ⟨_,hw37⟩ ?_
     refine qv rfl (fun u hu=>j0h underlying22 aggBlk.size HI.out u rfl rfl) ⟨_,hw37⟩ ?_
     refine qv rfl (fun u hu=>j0a u (HLD.out u (nl hu)) rfl) ⟨_,hw37⟩ ?_
     (refine j0I (f:=61) (args:= #[j1O y]) (caps:= #[.pointer (some ⟨gx,0,none⟩)]) (all:= #[j1O y, .pointer (some ⟨gx,0,none⟩)]) (v:= .bool false) rfl rfl rfl rfl rfl func61 rfl rfl (fun u hu=>HBF.out u (EnvX.bel hu)) ?_ hw37;intro K hK;go_big_quiet_op;go_big_quiet_on)
     clear hone hw37;refine enP fun u39 EX38=>?_
     have hii:=HI.out
     have hn:=HN63.out
     go_wp2
     go_roundw
     case rel=>exact⟨i+1,by omega,by go_num,H3.out,EX38.out⟩
     case measure=>simp[intOf];omega
  · obtain rfl:i=n:=by omega
    have C2:Hid (decide ((i:Int)<(i:Int))=false):=decide_eq_false (by omega)
    have HF:Hid (j4Q (rsB l) id= -1):=q4H (by rw[HL.out];exact H1.out)
    go_upto_region 2 with (fail)
    refine rgQ [0] [] EK rfl fun hw=>?_
    refine qv rfl (fun u hu=>j0o u C2.out rfl rfl) hw ?_
    refine enP fun u203 EX202=>?_
    go_upto_region 7 with (fail)
    refine rgQ [0] [] EX202 rfl fun hw=>?_
    refine qo rfl hw ?_
    refine enP fun u206 EX205=>?_
    have HBE:=hD (EnvX.bel EX205.out)
    go_wp2
    go_ret
    exact⟨by rw[HF.out];first|done|rfl,HBE.out⟩
theorem x4h(m:RowM)(id:List Int)(w:World)(hm:RowOk w m)(hn:m.l.length≤100000)(hid:j3C id)(ht:Tables w):
  Rz 28 #[j4e m,idv id] w (.int .i64 (j4Q m.r id)):=by
 unfold Rz
 have HIX:Hid (∀u,EnvX w u [(w.heap.size,oc (j0d 32 id) 26)]→Calls Tryz.prog 60 #[.slice m.A m.n m.c, .func (.func 61) #[] #[.pointer (some ⟨w.heap.size,0,none⟩)]] u fun e w'=>e= .returned (.int .i64 (j4Q m.r id))∧Below u.heap.size u w'):=fun u hu=>
  x1K m.l m.A m.n m.c id w.heap.size u hm.l (by rw[←hm.l];exact hn) (hm.m.up hu.bel) (fun v hv y hy=>x1W y id _ v (hy.up hv) hid ((ht.below hu.bel).below hv) ((hv.block _ (hu.lt mH)).trans (hu.box _ _ mH)))
 have E1:Hid (EnvX w (w.alloc (.cells (j0d 32 id) 26)) [(w.heap.size,oc (j0d 32 id) 26)]):=(EnvX.start w).new _
 clear hm hn hid ht
 generalize j4Q m.r id=k at *
 unfold j4e idv
 go_enter func28,ntmps28
 go_upto_region 1 with (fail)
 generalize w.alloc (.cells (j0d 32 id) 26)=W at *
 refine rgQ [0,1,2,3] [] E1 rfl fun hw=>?_
 refine qo rfl hw ?_
 refine qv (v:= .func (.func 61) #[] #[.pointer (some ⟨w.heap.size,0,none⟩)]) rfl (fun u hu=>q7Z u rfl) hw ?_
 refine qc rfl func60 (fun u hu=>HIX.out u hu) hw ?_
 refine qo rfl hw ?_
 refine enP fun u3 EX2=>?_
 have HBE:=hD (EnvX.bel EX2.out)
 go_wp2
 go_ret
 exact⟨rfl,HBE.out⟩
theorem x1J(l q:List BlkM)(A A':Option Addr)(n c m c':Nat)(w:World)(hl:l.length=n)(hn:n≤100000)(hA:BlksIn w A l)(ml: ∀x∈l,j2c x)(hl':q.length=m)(hm:m≤100000)(hA':BlksIn w A' q)(mq: ∀x∈q,j2c x):
  Rz 53 #[.slice A n c, .slice A' m c', .func (.func 39) #[] #[]] w (.bool (decide (rsB l=rsB q))):=by
 unfold Rz
 have HL:=hD hl
 have HL':=hD hl'
 have HAA:=hD hA
 have HAA':=hD hA'
 have HML:=hD ml
 have HMQ:=hD mq
 have HN63:Hid (n<9223372036854775808):=by show _<_;omega
 have HM63:Hid (m<9223372036854775808):=by show _<_;omega
 have E1:Hid (EnvX w w []):=EnvX.start w
 clear hl hn hA hl' hm hA' ml mq
 by_cases d4:n=m
 case neg=>
  have D4:Hid (decide ((n:Int)≠(m:Int))=true):=decide_eq_true (by omega)
  have HF:Hid (decide (rsB l=rsB q)=false):=decide_eq_false fun e=>d4 (by have h:=congrArg List.length e;rw[j3a,j3a,HL.out,HL'.out]at h;exact h)
  clear d4
  go_enter func53,ntmps53
  go_upto_region 1 with (fail)
  refine rgQ [0,1,2,3,4] [] E1 rfl fun hw=>?_
  refine qo rfl hw ?_
  refine qv rfl (fun u hu=>j0l underlying22 HN63.out u rfl) hw ?_
  refine qo rfl hw ?_
  refine qv rfl (fun u hu=>j0l underlying22 HM63.out u rfl) hw ?_
  refine qv rfl (fun u hu=>j36 u D4.out rfl rfl) hw ?_
  refine enP fun u3 EX2=>?_
  go_upto_region 2 with (fail)
  refine rgQ [0] [] EX2 rfl fun hw=>?_
  refine qo rfl hw ?_
  refine enP fun u6 EX5=>?_
  have HBE:=hD (EnvX.bel EX5.out)
  go_wp2
  go_ret
  exact⟨by rw[HF.out];first|done|rfl,HBE.out⟩
 have D4:Hid (decide ((n:Int)≠(n:Int))=false):=decide_eq_false (by omega)
 subst d4
 go_enter func53,ntmps53
 go_upto_region 1 with (fail)
 refine rgQ [0,1,2,3,4] [] E1 rfl fun hw=>?_
 refine qo rfl hw ?_
 refine qv rfl (fun u hu=>j0l underlying22 HN63.out u rfl) hw ?_
 refine qo rfl hw ?_
 refine qv rfl (fun u hu=>j0l underlying22 HM63.out u rfl) hw ?_
 refine qv rfl (fun u hu=>j36 u D4.out rfl rfl) hw ?_
 refine enP fun u3 EX2=>?_
 go_upto_region 3 with (fail)
 refine rgQ [0,1,2] [] EX2 rfl fun hw=>?_
 refine qo rfl hw ?_
 refine qv rfl (fun u hu=>j0l underlying22 HN63.out u rfl) hw ?_
 refine qo rfl hw ?_
 refine enP fun u6 EX5=>?_
 have EJ:=hD EX5.out
 clear EX5 E1
 go_upto_region 4 with (fail)
 go_loopw [17] (fun iv u=> ∃i:Nat,i≤n∧iv= .int .i64 (i:Int)∧Hid ((∀j,j<i→(l.getD j noBlkM).r=(q.getD j noBlkM).r)∧EnvX w u [])) (fun iv _=>n- (intOf iv).toNat)
 case atStart=>exact⟨0,by omega,rfl,(fun j hj=>by omega),EJ.out⟩
 case round=>
  obtain⟨i,hi,rfl,hinv⟩:=hrel
  have H1:=hD hinv.out.1
  have EK:=hD hinv.out.2
  clear hinv EJ
  by_cases hlt:i<n
  · have C2:Hid (decide ((i:Int)<(n:Int))=true):=decide_eq_true (by omega)
    have HI:=hD hlt
    have hil:i<l.length:=by rw[HL.out];exact hlt
    have hil':i<q.length:=by rw[HL'.out];exact hlt
    obtain⟨ad,rfl,-,hld⟩:=HAA.out.loads hil
    obtain⟨ad',rfl,-,hld'⟩:=HAA'.out.loads hil'
    have HLD:=hD (And.intro hld hld')
    have HTX:Hid (BlkOk w (l.getD i noBlkM)∧BlkOk w (q.getD i noBlkM)):=⟨HAA.out.get hil,HAA'.out.get hil'⟩
    have HMX:Hid (j2c (l.getD i noBlkM)∧j2c (q.getD i noBlkM)):=⟨HML.out _ (by rw[gD,gE hil];exact List.getElem_mem hil),HMQ.out _ (by rw[gD,gE hil'];exact List.getElem_mem hil')⟩
    obtain⟨x,hx⟩: ∃x,l.getD i noBlkM=x:=⟨_,rfl⟩
    obtain⟨y,hy⟩: ∃y,q.getD i noBlkM=y:=⟨_,rfl⟩
    have HXY:=hD (And.intro hx hy)
    rw[hx,hy]at HLD HTX HMX
    have HKx:Hid (j0M x.h):=HTX.out.1.h.len
    have HKy:Hid (j0M y.h):=HTX.out.2.h.len
    obtain⟨b,hb⟩: ∃b,decide (x.r=y.r)=b:=⟨_,rfl⟩
    have HEQ:=hD hb
    have HXB:Hid (Rt w 39 #[j1O x,j1O y] (.bool b)):=fun u hu=>by have h:=j8W x y u (HTX.out.1.up (EnvX.bel hu)) HMX.out.1 (HTX.out.2.up (EnvX.bel hu)) HMX.out.2;rwa[hb]at h
    clear hld hld' hil hil' hlt hx hy hb
    go_upto_region 4 with (fail)
    refine rgQ [0] [] EK rfl fun hw=>?_
    refine qv rfl (fun u hu=>j0o u C2.out rfl rfl) hw ?_
    refine enP fun u23 EX22=>?_
    go_upto_region 5 with (fail)
    refine rgQ [0,1,2] [3,4,5] EX22 rfl fun hw=>?_
    refine qo rfl hw ?_
    refine qv rfl (fun u hu=>j0h underlying22 aggBlk.size HI.out u rfl rfl) hw ?_
    refine qv rfl (fun u hu=>j0a u (HLD.out.1 u (nl hu)).1 rfl) hw ?_
    refine j0b<|qn rfl (j4R _) fun g8 HGg8 he25=>?_
    refine phE [4] [5] he25 fun hw=>?_
    refine qo rfl hw ?_
    refine j0b<|(sh rfl HGg8 (j1J _ (j0O HKx.out)) (j1D HKx.out) (j15 _) ?_)
    refine fun _=>enL fun u29 EX28=>?_
    go_upto_region 6 with (fail)
    refine rgQ [0,1,2,3] [4,5] EX28 rfl fun hw=>?_
    refine qw 2 hw ?_
    refine qv rfl (fun u hu=>j0h underlying22 aggBlk.size HI.out u rfl rfl) hw ?_
    refine qv rfl (fun u hu=>j0a u (HLD.out.2 u (nl hu)).1 rfl) hw ?_
    refine j0b<|qn rfl (j4R _) fun g9 HGg9 he31=>?_
    change j1E _ _ _ _ _ _ [(g9,oc (j0L noBlkM) 37),(g8,oc (j0L x) 37)]
    refine(sh rfl HGg9 (j1J _ (j0O HKy.out)) (j1D HKy.out) (j15 _) ?_)
    refine fun _=>enL fun u34 EX33=>?_
    cases b with
    | false=>
     have HF:Hid (decide (rsB l=rsB q)=false):=decide_eq_false fun e=>by
      have h:(rsB l).getD i j4f=(rsB q).getD i j4f:=congrArg (fun z:List BlkR=>z.getD i j4f) e
      have e1:=q72 (l:=l) (i:=i) (by rw[HL.out];exact HI.out)
      have e2:=q72 (l:=q) (i:=i) (by rw[HL'.out];exact HI.out)
      rw[e1,e2,HXY.out.1,HXY.out.2]at h
      exact of_decide_eq_false HEQ.out h
     go_upto_region 7 with (fail)
     refine rgP [0,1,2,3,4] [] EX33 rfl ?_;intro hw35 hone
     refine qo rfl ⟨_,hw35⟩ ?_
     refine ql rfl (mT mH) HKx.out ⟨_,hw35⟩ ?_
     refine ql rfl mH HKy.out ⟨_,hw35⟩ ?_
     (refine j0I (f:=39) (args:= #[j1O x,j1O y]) (caps:= #[]) (all:= #[j1O x,j1O y]) (v:= .bool false) rfl rfl rfl rfl rfl func39 rfl rfl (fun u hu=>HXB.out u (nl hu)) ?_ hw35;intro K hK;go_big_quiet_op;go_big_quiet_on)
     refine qo rfl ⟨_,hw35⟩ ?_
     clear hone hw35;refine enP fun u37 EX36=>?_
     go_upto_region 8 with (fail)
     refine rgQ [0] [] EX36 rfl fun hw=>?_
     refine qo rfl hw ?_
     refine enP fun u40 EX39=>?_
     have HBE:=hD (EnvX.bel EX39.out)
     go_wp2
     go_ret
     exact⟨by rw[HF.out];first|done|rfl,HBE.out⟩
    | true=>
     have H3:Hid (∀j,j<i+1→(l.getD j noBlkM).r=(q.getD j noBlkM).r):=fun j hj=>by
      rcases Nat.lt_or_ge j i with h|h
      · exact H1.out j h
      · rw[show j=i by omega,HXY.out.1,HXY.out.2];exact of_decide_eq_true HEQ.out
     go_upto_region 7 with (fail)
     refine rgP [0,1,2,3,4] [] EX33 rfl ?_;intro hw35 hone
     refine qo rfl ⟨_,hw35⟩ ?_
     refine ql rfl (mT mH) HKx.out ⟨_,hw35⟩ ?_
     refine ql rfl mH HKy.out ⟨_,hw35⟩ ?_
     (refine j0I (f:=39) (args:= #[j1O x,j1O y]) (caps:= #[]) (all:= #[j1O x,j1O y]) (v:= .bool true) rfl rfl rfl rfl rfl func39 rfl rfl (fun u hu=>HXB.out u (nl hu)) ?_ hw35;intro K hK;go_big_quiet_op;go_big_quiet_on)
     refine qo rfl ⟨_,hw35⟩ ?_
     clear hone hw35;refine enP fun u37 EX36=>?_
     have hii:=HI.out
     have hn:=HN63.out
     go_wp2
     go_roundw
     case rel=>exact⟨i+1,by omega,by go_num,H3.out,EX36.out.sub (fun _ h=>by cases h)⟩
     case measure=>simp[intOf];omega
  · obtain rfl:i=n:=by omega
    have C2:Hid (decide ((i:Int)<(i:Int))=false):=decide_eq_false (by omega)
    have HF:Hid (decide (rsB l=rsB q)=true):=decide_eq_true (x25 (by rw[HL.out,HL'.out]) (by rw[HL.out];exact H1.out))
    go_upto_region 4 with (fail)
    refine rgQ [0] [] EK rfl fun hw=>?_
    refine qv rfl (fun u hu=>j0o u C2.out rfl rfl) hw ?_
    refine enP fun u203 EX202=>?_
    go_upto_region 10 with (fail)
    refine rgQ [0] [] EX202 rfl fun hw=>?_
    refine qo rfl hw ?_
    refine enP fun u206 EX205=>?_
    have HBE:=hD (EnvX.bel EX205.out)
    go_wp2
    go_ret
    exact⟨by rw[HF.out];first|done|rfl,HBE.out⟩
theorem midRowR.mem{m:RowM}(h:midRowR m.r): ∀x∈m.l,j2c x:=fun x hx=>(j2D x).2 (h.2 _ (List.mem_map.2 ⟨x,hx,rfl⟩))
theorem midRowR.len{m:RowM}(h:midRowR m.r):m.l.length≤100000:=by have h1:=h.1;rwa[m.r_len]at h1
theorem x3A(m q:RowM)(w:World)(hm:RowOk w m)(mm:midRowR m.r)(hq:RowOk w q)(mq:midRowR q.r):
  Rz 24 #[j4e m,j4e q] w (.bool (decide (m.r=q.r))):=by
 unfold Rz
 have HEQ:Hid (Rt w 53 #[.slice m.A m.n m.c, .slice q.A q.n q.c, .func (.func 39) #[] #[]] (.bool (decide (m.r=q.r)))):=fun u hu=>
  x1J m.l q.l m.A q.A m.n m.c q.n q.c u hm.l (by rw[←hm.l];exact mm.len) (hm.m.up (EnvX.bel hu)) mm.mem hq.l (by rw[←hq.l];exact mq.len) (hq.m.up (EnvX.bel hu)) mq.mem
 have E1:Hid (EnvX w w []):=EnvX.start w
 clear hm mm hq mq
 generalize decide (m.r=q.r)=b at *
 unfold j4e
 go_enter func24,ntmps24
 go_upto_region 1 with (fail)
 refine rgQ [0,1,2,3] [] E1 rfl fun hw=>?_
 refine qw 2 hw ?_
 refine qc rfl func53 (fun u hu=>HEQ.out u (nl hu)) hw ?_
 refine qo rfl hw ?_
 refine enP fun u3 EX2=>?_
 have HBE:=hD (EnvX.bel EX2.out)
 go_wp2
 go_ret
 exact⟨rfl,HBE.out⟩
theorem q5Y:ElemT 52 3 1 8 (.int .i64 0):=⟨underlying52,by kernel_rfl,by rfl,by decide,by decide,by decide⟩
theorem q6j(b:BlkM)(w:World)(kb:BlkOk w b)(ht:Tables w):
  Rz 51 #[j1O b] w (.int .i64 (j1g b.h)):=by
 unfold Rz
 have HOB:Hid (okHd b.h):=kb.h
 have HLV:Hid (Rt w 35 #[hdV b.h] (.int .i64 (j1g b.h))):=fun u hu=>j6m b.h u kb.h (ht.below (EnvX.bel hu))
 have E1:Hid (EnvX w (w.alloc (.cells (j0L b) 37)) [(w.heap.size,oc (j0L b) 37)]):=(EnvX.start w).new _
 clear kb ht
 generalize j1g b.h=lv at *
 unfold j1O
 go_enter func51,ntmps51
 go_upto_region 1 with (fail)
 generalize w.alloc (.cells (j0L b) 37)=W at *
 refine rgQ [0,1,2,3] [] E1 rfl fun hw=>?_
 refine qf rfl hw ?_
 refine qv rfl (fun u hu=>j0a u (j0B HOB.out.len (j02 hu mH HOB.out.len)).1 rfl) hw ?_
 refine qc rfl func35 (fun u hu=>HLV.out u (nl hu)) hw ?_
 refine qo rfl hw ?_
 refine enP fun u3 EX2=>?_
 have HBE:=hD (EnvX.bel EX2.out)
 go_wp2
 go_ret
 exact⟨rfl,HBE.out⟩
theorem q8T(b:BlkM)(w:World)(kb:BlkOk w b)(ht:Tables w):
  Rz 56 #[j1O b] w (j3j (j0C b.h)):=by
 unfold Rz
 have HOB:Hid (okHd b.h):=kb.h
 have hh:=kb.h
 have HO:Hid (j2z (j0C b.h)):=(j4D b.h).1
 have HLE:Hid (w.heap.size≤w.heap.size+1):=by show _≤_;omega
 have HID:Hid (Rt w 32 #[hdV b.h] (idv (idH b.h))):=fun u hu=>j5p b.h u hh (ht.below (EnvX.bel hu))
 have HWK:Hid (Rt w 106 #[hdV b.h] (.agg (wcs (j5c b.h)))):=fun u hu=>q1i b.h u hh
 have HLF:Hid (Rt w 105 #[idv (idH b.h), .agg (wcs (j5c b.h))] (j3j (j0C b.h))):=fun u hu=>q0h (idH b.h) (j5c b.h) u (j4D b.h) (j8X b.h)
 have E1:Hid (EnvX w ((w.alloc (.cells (j0L b) 37)).alloc (.cells (j0E j3i) 61)) [(w.heap.size+1,oc (j0E j3i) 61),(w.heap.size,oc (j0L b) 37)]):=(EnvX.start w).two _ _
 clear kb ht hh
 unfold j1O j3j
 go_enter func56,ntmps56
 go_upto_region 1 with (fail)
 rw[j3R]
 generalize (w.alloc (.cells (j0L b) 37)).alloc (.cells (j0E j3i) 61)=W at *
 refine rgK [0,1,2,3,4,5,6] 1 E1 rfl fun hw=>?_
 refine qf rfl hw ?_
 refine qv rfl (fun u hu=>j0a u (j0B HOB.out.len (j02 hu (mT mH) HOB.out.len)).1 rfl) hw ?_
 refine qc rfl func32 (fun u hu=>HID.out u (nl hu)) hw ?_
 refine qf rfl hw ?_
 refine qv rfl (fun u hu=>j0a u (j0B HOB.out.len (j02 hu (mT mH) HOB.out.len)).1 rfl) hw ?_
 refine qc rfl func106 (fun u hu=>HWK.out u (nl hu)) hw ?_
 refine qc rfl func105 (fun u hu=>HLF.out u (nl hu)) hw ?_
 refine j0b<|aO 7 (so rfl HLE.out mH (j2B _ (j0Z HO.out)) (zTot_size.trans (j0Z HO.out).symm) (j3G _) ?_)
 intro he2
 refine eM fun u4 EX3=>?_
 have Q0:=hD (EnvX.box EX3.out _ _ mH)
 have HBEL:=hD EX3.out.bel
 clear EX3
 go_wp2_with ((with_reducible refine bodyPost_ret (v:= .agg (j0E (j0C b.h))) ?_ ?_ ?_);(exact results_cell_row (p:=2) (ty:=61) results56 _ _ (w.heap.size+1) 61 (j0E (j0C b.h)) (0,0) _ rfl Q0.out underlying61 rfl (j2B _ (j0Z HO.out)));(rfl))
 exact HBEL.out
theorem x3i(l:List BlkM)(A:Option Addr)(n c:Nat)(w:World)(hl:l.length=n)(hn:n≤1000000)(hA:BlksIn w A l)(ht:Tables w):
  Calls Tryz.prog 50 #[.slice A n c, .func (.func 51) #[] #[]] w fun e w'=>(∃v,e= .returned v∧w'.ownsRow w.heap.size 3 1 v n (((j10 (rsB l)).map j78)))∧Below w.heap.size w w':=by
 have HL:=hD hl
 have HN6:Hid (n≤1000000):=by show _≤_;omega
 have HN63:Hid (n<9223372036854775808):=by show _<_;omega
 have HNM:Hid (n≤maxLen):=by show _≤_;unfold maxLen;omega
 have HAA:=hD hA
 have HFN:Hid (∀(u:World)(x:BlkM),EnvX w u []→BlkOk w x→Calls Tryz.prog 51 #[j1O x] u fun e w'=>e= .returned (.int .i64 (j1g x.h))∧Below u.heap.size u w'):=fun u x hu hx=>q6j x u (hx.up (EnvX.bel hu)) (ht.below (EnvX.bel hu))
 have E1:Hid (EnvX w w []):=EnvX.start w
 clear hl hn hA ht
 go_enter func50,ntmps50
 go_upto_region 1 with (fail)
 refine rgQ [0,1] [2,3] E1 rfl fun hw=>?_
 refine qo rfl hw ?_
 refine qv rfl (fun u hu=>j0l underlying22 HN63.out u rfl) hw ?_
 refine j0b<|(j0k (R:=fun v N=> ∃g cur,v= .slice (some ⟨g,0,none⟩) 0 n∧N=[(g,oc cur 3)]∧cur.size=n*1) (M0:=[]) rfl rfl (fun _ h=>h) (fun u hu=>j42 q5Y HN6.out rfl u) ?_)
 rintro _ _ ⟨gm,cm,rfl,rfl,hcm⟩ hf he2;intro K' hK';go_big_quiet_op;go_big_quiet_on
 have HCM:=hD hcm
 have HGM:=hD (hf _ (mS.2 rfl))
 clear hcm
 clear hf
 refine phE [3] [] he2 fun hw=>?_
 refine qo rfl hw ?_
 refine enP fun u5 EX4=>?_
 go_upto_region 2 with (fail)
 refine rgQ [0,1,2] [] EX4 rfl fun hw=>?_
 refine qo rfl hw ?_
 refine qv rfl (fun u hu=>j0l underlying22 HN63.out u rfl) hw ?_
 refine qo rfl hw ?_
 refine enP fun u8 EX7=>?_
 have HST:Hid (∃N,FreshR 3 1 0 (((j10 (rsB l)).take (0)).map j78) (.slice (some ⟨gm,0,none⟩) 0 n) N∧j01 w N []∧EnvX w u8 N):=⟨[(gm,oc cm 3)], .inl ⟨gm,n,cm,rfl,rfl,Nat.zero_le _,HNM.out,HCM.out,by rw[Nat.zero_mul,List.take_zero];rfl⟩,(fun y hy=>by cases mS.1 hy;exact⟨HGM.out.1,fun z hz=>by cases hz⟩),EX7.out⟩
 clear EX7 E1 HCM HGM
 go_upto_region 3 with (fail)
 go_loopw [5,13] (fun v iv u=> ∃k:Nat,k≤n∧iv= .int .i64 (k:Int)∧Hid (∃N,FreshR 3 1 k (((j10 (rsB l)).take (k)).map j78) v N∧j01 w N []∧EnvX w u N)) (fun _ iv _=>n- (intOf iv).toNat)
 case atStart=>exact⟨0,by omega,rfl,HST⟩
 case round=>
  obtain⟨k,hk,rfl,hinv⟩:=hrel
  obtain⟨N,hF,hfr,hE⟩:=hinv.out
  obtain⟨A',c',rfl,-,-⟩:=FreshR.formR hF
  have EK:=hD hE
  have HF:=hD hF
  have HFR:=hD hfr
  clear hinv HST hE hfr hF
  by_cases hlt:k<n
  · have C2:Hid (decide ((k:Int)<(n:Int))=true):=decide_eq_true (by omega)
    have HI:=hD hlt
    have hil:k<l.length:=by rw[HL.out];exact hlt
    obtain⟨ad,rfl,-,hld⟩:=HAA.out.loads hil
    have HLD:Hid (∀u,EnvX w u []→(loadVar 37 (ad.add (k*137))).run Tryz.prog u= .ok (j1O (l.getD k noBlkM)) u):=fun u hu=>(hld u hu).1
    have HTX:=hD (HAA.out.get hil)
    obtain⟨x,hx⟩: ∃x,l.getD k noBlkM=x:=⟨_,rfl⟩
    rw[hx]at HLD HTX
    have HST:Hid (((j10 (rsB l)).take (k+1)).map j78=((j10 (rsB l)).take k).map j78++[j78 (j1g x.h)]):=by
     show _=_
     have h:(rsB l).getD k j4f=x.r:=by rw[←hx];exact j5O hil
     have h2:(rsB l)[k]?=some x.r:=by
      have hk2:k<(rsB l).length:=by rw[j3a];exact hil
      rw[gD,gE hk2]at h
      rw[gE hk2]
      exact congrArg some h
     unfold j10
     rw[List.take_add_one,List.getElem?_map,h2,List.map_append]
     rfl
    have HFX:Hid (Rt w 51 #[j1O x] (.int .i64 (j1g x.h))):=fun u hu=>HFN.out u x hu HTX.out
    have HFL:Hid ((((j10 (rsB l)).take k).map j78).length=k*1):=by
     show _=_
     unfold j10
     rw[lM,List.length_take,lM,j3a,HL.out]
     omega
    clear hld hil hlt hx
    have HKx:Hid (j0M x.h):=HTX.out.h.len
    generalize j1g x.h=lf at *
    go_upto_region 3 with (fail)
    refine rgQ [0] [] EK rfl fun hw=>?_
    refine qv rfl (fun u hu=>j0o u C2.out rfl rfl) hw ?_
    refine enP fun u23 EX22=>?_
    go_upto_region 4 with (fail)
    refine rgQ [0,1] [2,3] EX22 rfl fun hw=>?_
    refine qv rfl (fun u hu=>j0h underlying22 aggBlk.size HI.out u rfl rfl) hw ?_
    refine qv rfl (fun u hu=>j0a u (HLD.out u (nl hu)) rfl) hw ?_
    refine j0b<|qn rfl (j4R _) fun g7 HGg7 he25=>?_
    change j1E _ _ _ _ _ _ ((g7,oc (j0L noBlkM) 37)::N)
    refine(sh rfl HGg7 (j1J _ (j0O HKx.out)) (j1D HKx.out) (j15 _) ?_)
    refine fun _=>enL fun u28 EX27=>?_
    go_upto_region 5 with (fail)
    refine rgP [0,1,2,3] [4,5,6] EX27 rfl ?_;intro hw29 hone
    iterate 2 refine qo rfl ⟨_,hw29⟩ ?_
    refine ql rfl mH HKx.out ⟨_,hw29⟩ ?_
    (refine j0I (f:=51) (args:= #[j1O x]) (caps:= #[]) (all:= #[j1O x]) (v:= .int .i64 lf) rfl rfl rfl rfl rfl func51 rfl rfl (fun u hu=>HFX.out u (nl hu)) ?_ hw29;intro K hK;go_big_quiet_op;go_big_quiet_on)
    clear hone hw29
    refine j0b<|(j0k (R:=j2R 3 ([j78 lf])) (M0:=((g7,oc (j0L x) 37)::N)) rfl rfl (fun _ h=>h) (fun u hu=>q2l q5Y (x:= .int .i64 lf) rfl rfl u) ?_)
    rintro _ _ ⟨gb,rfl,rfl⟩ hf he30;intro K' hK';go_big_quiet_op;go_big_quiet_on
    clear hf
    change j1E _ _ _ _ _ _ ((gb,oc ([j78 lf]).toArray 3)::((g7,oc (j0L x) 37)::N))
    refine(j03 (gd:=none) (R:=j1N w 3 1 (k+1) (((j10 (rsB l)).take k).map j78++[j78 lf]) []) rfl rfl rfl rfl (fun u hu=>j1H q5Y (m:=1) [] hu HFL.out rfl (fun v hv=>by cases mS.1 hv;rfl) HF.out (fun y MEM=>⟨(mT (mT MEM)),(HFR.out y MEM).1⟩) (j1p (k:=0) hu mH (by rw[List.drop_zero,List.take_length])) (fun _ h=>by cases h) (by have:=HI.out;have:=HN6.out;omega) rfl rfl) ?_)
    rintro x9 M' ⟨N9,hM9,hF9,hn9⟩ he31;obtain rfl:N9=M':=(by rw[hM9,List.append_nil]);intro K' hK';go_big_quiet_op;go_big_quiet_on
    have HF9:=hD (And.intro hF9 hn9)
    clear hF9 hn9
    refine phE [6] [] he31 fun hw=>?_
    refine qo rfl hw ?_
    refine enP fun u34 EX33=>?_
    have HNX:Hid (∃N,FreshR 3 1 (k+1) (((j10 (rsB l)).take ((k+1))).map j78) x9 N∧j01 w N []∧EnvX w u34 N):=⟨N9,by rw[HST.out];exact HF9.out.1,HF9.out.2,EX33.out⟩
    have hii:=HI.out
    have hn:=HN63.out
    go_wp2
    go_roundw
    case rel=>exact⟨k+1,by omega,by go_num,HNX⟩
    case measure=>simp[intOf];omega
  · obtain rfl:k=n:=by omega
    have C2:Hid (decide ((k:Int)<(k:Int))=false):=decide_eq_false (by omega)
    go_upto_region 3 with (fail)
    refine rgQ [0] [] EK rfl fun hw=>?_
    refine qv rfl (fun u hu=>j0o u C2.out rfl rfl) hw ?_
    refine enP fun u303 EX302=>?_
    go_upto_region 7 with (fail)
    refine rgQ [0,1] [] EX302 rfl fun hw=>?_
    refine qw 2 hw ?_
    refine enP fun u306 EX305=>?_
    have HO:Hid (u306.ownsRow w.heap.size 3 1 (.slice A' k c') k (((j10 (rsB l)).map j78))):=by
     have hF:=HF.out
     have hl:(j10 (rsB l)).length=k:=by unfold j10;rw[lM,j3a,HL.out]
     rw[tL (by rw[hl];exact Nat.le_refl _)]at hF
     exact hF.own (by rw[lM,hl,Nat.mul_one]) (fun y hy=>⟨(HFR.out y hy).1,EnvX.box EX305.out _ _ hy⟩)
    have HBE:=hD (EnvX.bel EX305.out)
    go_wp2
    go_ret
    exact⟨⟨_,rfl,HO.out⟩,HBE.out⟩
theorem x19(l:List BlkM)(A:Option Addr)(n c:Nat)(w:World)(hl:l.length=n)(hn:n≤1000000)(hA:BlksIn w A l)(ht:Tables w):
  Calls Tryz.prog 55 #[.slice A n c, .func (.func 56) #[] #[]] w fun e w'=>(∃v,e= .returned v∧w'.ownsRow w.heap.size 61 37 v n (((j1h (rsB l)).map j11).flatten))∧Below w.heap.size w w':=by
 have HL:=hD hl
 have HN6:Hid (n≤1000000):=by show _≤_;omega
 have HN63:Hid (n<9223372036854775808):=by show _<_;omega
 have HNM:Hid (n≤maxLen):=by show _≤_;unfold maxLen;omega
 have HAA:=hD hA
 have HFN:Hid (∀(u:World)(x:BlkM),EnvX w u []→BlkOk w x→Calls Tryz.prog 56 #[j1O x] u fun e w'=>e= .returned (j3j (j0C x.h))∧Below u.heap.size u w'):=fun u x hu hx=>q8T x u (hx.up (EnvX.bel hu)) (ht.below (EnvX.bel hu))
 have E1:Hid (EnvX w w []):=EnvX.start w
 clear hl hn hA ht
 go_enter func55,ntmps55
 go_upto_region 1 with (fail)
 refine rgQ [0,1] [2,3] E1 rfl fun hw=>?_
 refine qo rfl hw ?_
 refine qv rfl (fun u hu=>j0l underlying22 HN63.out u rfl) hw ?_
 refine j0b<|(j0k (R:=fun v N=> ∃g cur,v= .slice (some ⟨g,0,none⟩) 0 n∧N=[(g,oc cur 61)]∧cur.size=n*37) (M0:=[]) rfl rfl (fun _ h=>h) (fun u hu=>j42 elTot HN6.out rfl u) ?_)
 rintro _ _ ⟨gm,cm,rfl,rfl,hcm⟩ hf he2;intro K' hK';go_big_quiet_op;go_big_quiet_on
 have HCM:=hD hcm
 have HGM:=hD (hf _ (mS.2 rfl))
 clear hcm
 clear hf
 refine phE [3] [] he2 fun hw=>?_
 refine qo rfl hw ?_
 refine enP fun u5 EX4=>?_
 go_upto_region 2 with (fail)
 refine rgQ [0,1,2] [] EX4 rfl fun hw=>?_
 refine qo rfl hw ?_
 refine qv rfl (fun u hu=>j0l underlying22 HN63.out u rfl) hw ?_
 refine qo rfl hw ?_
 refine enP fun u8 EX7=>?_
 have HST:Hid (∃N,FreshR 61 37 0 ((((j1h (rsB l)).take (0)).map j11).flatten) (.slice (some ⟨gm,0,none⟩) 0 n) N∧j01 w N []∧EnvX w u8 N):=⟨[(gm,oc cm 61)], .inl ⟨gm,n,cm,rfl,rfl,Nat.zero_le _,HNM.out,HCM.out,by rw[Nat.zero_mul,List.take_zero];rfl⟩,(fun y hy=>by cases mS.1 hy;exact⟨HGM.out.1,fun z hz=>by cases hz⟩),EX7.out⟩
 clear EX7 E1 HCM HGM
 go_upto_region 3 with (fail)
 go_loopw [5,13] (fun v iv u=> ∃k:Nat,k≤n∧iv= .int .i64 (k:Int)∧Hid (∃N,FreshR 61 37 k ((((j1h (rsB l)).take (k)).map j11).flatten) v N∧j01 w N []∧EnvX w u N)) (fun _ iv _=>n- (intOf iv).toNat)
 case atStart=>exact⟨0,by omega,rfl,HST⟩
 case round=>
  obtain⟨k,hk,rfl,hinv⟩:=hrel
  obtain⟨N,hF,hfr,hE⟩:=hinv.out
  obtain⟨A',c',rfl,-,-⟩:=FreshR.formR hF
  have EK:=hD hE
  have HF:=hD hF
  have HFR:=hD hfr
  clear hinv HST hE hfr hF
  by_cases hlt:k<n
  · have C2:Hid (decide ((k:Int)<(n:Int))=true):=decide_eq_true (by omega)
    have HI:=hD hlt
    have hil:k<l.length:=by rw[HL.out];exact hlt
    obtain⟨ad,rfl,-,hld⟩:=HAA.out.loads hil
    have HLD:Hid (∀u,EnvX w u []→(loadVar 37 (ad.add (k*137))).run Tryz.prog u= .ok (j1O (l.getD k noBlkM)) u):=fun u hu=>(hld u hu).1
    have HTX:=hD (HAA.out.get hil)
    obtain⟨x,hx⟩: ∃x,l.getD k noBlkM=x:=⟨_,rfl⟩
    rw[hx]at HLD HTX
    have HST:Hid ((((j1h (rsB l)).take (k+1)).map j11).flatten=(((j1h (rsB l)).take k).map j11).flatten++j11 (j0C x.h)):=by
     show _=_
     have h:(rsB l).getD k j4f=x.r:=by rw[←hx];exact j5O hil
     have h2:(rsB l)[k]?=some x.r:=by
      have hk2:k<(rsB l).length:=by rw[j3a];exact hil
      rw[gD,gE hk2]at h
      rw[gE hk2]
      exact congrArg some h
     unfold j1h
     rw[List.take_add_one,List.getElem?_map,h2,List.map_append]
     rw[List.flatten_append]
     simp[BlkM.r]
    have HFX:Hid (Rt w 56 #[j1O x] (j3j (j0C x.h))):=fun u hu=>HFN.out u x hu HTX.out
    have HFL:Hid (((((j1h (rsB l)).take k).map j11).flatten).length=k*37):=by
     show _=_
     rw[j2x ((j4V (rsB l)).1.take k),List.length_take]
     unfold j1h
     rw[lM,j3a,HL.out]
     omega
    clear hld hil hlt hx
    have HKx:Hid (j0M x.h):=HTX.out.h.len
    have HOK:Hid (j2z (j0C x.h)):=(j4D x.h).1
    generalize j0C x.h=lf at *
    go_upto_region 3 with (fail)
    refine rgQ [0] [] EK rfl fun hw=>?_
    refine qv rfl (fun u hu=>j0o u C2.out rfl rfl) hw ?_
    refine enP fun u23 EX22=>?_
    go_upto_region 4 with (fail)
    refine rgQ [0,1] [2,3] EX22 rfl fun hw=>?_
    refine qv rfl (fun u hu=>j0h underlying22 aggBlk.size HI.out u rfl rfl) hw ?_
    refine qv rfl (fun u hu=>j0a u (HLD.out u (nl hu)) rfl) hw ?_
    refine j0b<|qn rfl (j4R _) fun g7 HGg7 he25=>?_
    change j1E _ _ _ _ _ _ ((g7,oc (j0L noBlkM) 37)::N)
    refine(sh rfl HGg7 (j1J _ (j0O HKx.out)) (j1D HKx.out) (j15 _) ?_)
    refine fun _=>enL fun u28 EX27=>?_
    go_upto_region 5 with (fail)
    refine rgP [0,1,2,3] [4,5,6] EX27 rfl ?_;intro hw29 hone
    iterate 2 refine qo rfl ⟨_,hw29⟩ ?_
    refine ql rfl mH HKx.out ⟨_,hw29⟩ ?_
    (refine j0I (f:=56) (args:= #[j1O x]) (caps:= #[]) (all:= #[j1O x]) (v:=j3j lf) rfl rfl rfl rfl rfl func56 rfl rfl (fun u hu=>HFX.out u (nl hu)) ?_ hw29;intro K hK;go_big_quiet_op;go_big_quiet_on)
    clear hone hw29
    refine j0b<|(j0k (R:=j2R 61 (j11 lf)) (M0:=((g7,oc (j0L x) 37)::N)) rfl rfl (fun _ h=>h) (fun u hu=>j1q elTot (j16 HOK.out) (j22 _) rfl u) ?_)
    rintro _ _ ⟨gb,rfl,rfl⟩ hf he30;intro K' hK';go_big_quiet_op;go_big_quiet_on
    clear hf
    change j1E _ _ _ _ _ _ ((gb,oc (j11 lf).toArray 61)::((g7,oc (j0L x) 37)::N))
    refine(j03 (gd:=none) (R:=j1N w 61 37 (k+1) ((((j1h (rsB l)).take k).map j11).flatten++j11 lf) []) rfl rfl rfl rfl (fun u hu=>j1H elTot (m:=1) [] hu HFL.out (by rw[Nat.one_mul];exact j16 HOK.out) (j22 _) HF.out (fun y MEM=>⟨(mT (mT MEM)),(HFR.out y MEM).1⟩) (j1p (k:=0) hu mH (by rw[List.drop_zero,List.take_length])) (fun _ h=>by cases h) (by have:=HI.out;have:=HN6.out;omega) rfl rfl) ?_)
    rintro x9 M' ⟨N9,hM9,hF9,hn9⟩ he31;obtain rfl:N9=M':=(by rw[hM9,List.append_nil]);intro K' hK';go_big_quiet_op;go_big_quiet_on
    have HF9:=hD (And.intro hF9 hn9)
    clear hF9 hn9
    refine phE [6] [] he31 fun hw=>?_
    refine qo rfl hw ?_
    refine enP fun u34 EX33=>?_
    have HNX:Hid (∃N,FreshR 61 37 (k+1) ((((j1h (rsB l)).take ((k+1))).map j11).flatten) x9 N∧j01 w N []∧EnvX w u34 N):=⟨N9,by rw[HST.out];exact HF9.out.1,HF9.out.2,EX33.out⟩
    have hii:=HI.out
    have hn:=HN63.out
    go_wp2
    go_roundw
    case rel=>exact⟨k+1,by omega,by go_num,HNX⟩
    case measure=>simp[intOf];omega
  · obtain rfl:k=n:=by omega
    have C2:Hid (decide ((k:Int)<(k:Int))=false):=decide_eq_false (by omega)
    go_upto_region 3 with (fail)
    refine rgQ [0] [] EK rfl fun hw=>?_
    refine qv rfl (fun u hu=>j0o u C2.out rfl rfl) hw ?_
    refine enP fun u303 EX302=>?_
    go_upto_region 7 with (fail)
    refine rgQ [0,1] [] EX302 rfl fun hw=>?_
    refine qw 2 hw ?_
    refine enP fun u306 EX305=>?_
    have HO:Hid (u306.ownsRow w.heap.size 61 37 (.slice A' k c') k (((j1h (rsB l)).map j11).flatten)):=by
     have hF:=HF.out
     have hl:(j1h (rsB l)).length=k:=by unfold j1h;rw[lM,j3a,HL.out]
     rw[tL (by rw[hl];exact Nat.le_refl _)]at hF
     exact hF.own (by rw[j2x (j4V (rsB l)).1,hl]) (fun y hy=>⟨(HFR.out y hy).1,EnvX.box EX305.out _ _ hy⟩)
    have HBE:=hD (EnvX.bel EX305.out)
    go_wp2
    go_ret
    exact⟨⟨_,rfl,HO.out⟩,HBE.out⟩
theorem q8M(x:TxM)(w:World)(hx:TxOk w x)(hf:q6x x.r):j1T 99 #[txV x] w (RTx x.r):=by
 unfold j1T
 have HTX:=hD hx
 have HLE:Hid (w.heap.size≤w.heap.size+1):=by show _≤_;omega
 have HCI:Hid (∀u,EnvX w u []→Calls Tryz.prog 152 #[.slice x.A1 x.n1 x.c1] u fun e w'=>(∃v,e= .returned v∧w'.ownsRow u.heap.size 133 33 v x.n1 ((x.r.ins.map inC).flatten))∧Below u.heap.size u w'):=fun u hu=>q8h x.r.ins x.A1 x.n1 x.c1 u hx.l1 (by have:=hf.1;rw[hx.l1]at this;exact this) hx.o1 (hx.up (EnvX.bel hu)).m1
 have HCO:Hid (∀u,EnvX w u []→Calls Tryz.prog 153 #[.slice x.A2 x.n2 x.c2] u fun e w'=>(∃v,e= .returned v∧w'.ownsRow u.heap.size 135 2 v x.n2 ((x.r.outs.map j6Q).flatten))∧Below u.heap.size u w'):=fun u hu=>q75 x.r.outs x.A2 x.n2 x.c2 u hx.l2 (by have:=hf.2;rw[hx.l2]at this;exact this) (hx.up (EnvX.bel hu)).m2
 have E1:Hid (EnvX w ((w.alloc (.cells (txA x) 77)).alloc (.cells (txA j0A) 77)) [(w.heap.size+1,oc (txA j0A) 77),(w.heap.size,oc (txA x) 77)]):=(EnvX.start w).two _ _
 clear hx hf
 unfold txV
 go_enter func99,ntmps99
 go_upto_region 1 with (fail)
 change Code.wp _ _ _ _ ((w.alloc (.cells (txA x) 77)).alloc (.cells (txA j0A) 77))
 generalize (w.alloc (.cells (txA x) 77)).alloc (.cells (txA j0A) 77)=W at *
 refine rgK [0,1,3,4] 4 E1 rfl fun hw=>?_
 refine qf rfl hw ?_
 refine ql rfl (mT mH) trivial hw ?_
 refine qf rfl hw ?_
 refine ql rfl (mT mH) trivial hw ?_
 refine j0b<|aO 2 (qr rfl func152 (fun u hu=>j0i (HCI.out u (nl hu))) ?_)
 rintro x9 N2 hF hf he2
 obtain⟨A2,c2,rfl,k1,k2⟩:=FreshR.formR hF
 have HF2:=hD (And.intro hF (And.intro k1 k2))
 have HN2:Hid (∀y∈N2,w.heap.size≤y.1∧y.1≠w.heap.size+1):=fun y hy=>⟨(hf y hy).1,fun h=>(hf y hy).2 _ mH h.symm⟩
 clear hF k1 k2
 clear hf
 change j1s _ _ _ _ _ _ _ _ (N2++((w.heap.size+1,oc (txA j0A) 77)::((w.heap.size,oc (txA x) 77)::[])))
 refine aO 5 (qr rfl func153 (fun u hu=>j0i (HCO.out u (nl hu))) ?_)
 rintro x9 N5 hF hf he3
 obtain⟨A5,c5,rfl,k1,k2⟩:=FreshR.formR hF
 have HF5:=hD (And.intro hF (And.intro k1 k2))
 have HN5:Hid (∀y∈N5,w.heap.size≤y.1∧y.1≠w.heap.size+1):=fun y hy=>⟨(hf y hy).1,fun h=>(hf y hy).2 _ (mR mH) h.symm⟩
 clear hF k1 k2
 clear hf
 refine phF [6] 1 rfl he3 fun hw=>?_
 refine qv (v:= .agg (txA ⟨x.r,A2,x.n1,c2,A5,x.n2,c5⟩)) rfl (fun u hu=>j0p u (q32 x.r A2 x.n1 c2 A5 x.n2 c5)) hw ?_
 refine j0b<|aO 7 (j0z rfl (w.heap.size+1) (txA ⟨x.r,A2,x.n1,c2,A5,x.n2,c5⟩) rfl rfl HLE.out 77 ((txA j0A)) (mR (mR mH)) (j5i _ (j0Y _)) ((j0Y _).trans (j0Y _).symm) (j3I _) ((w.heap.size+1,oc (txA ⟨x.r,A2,x.n1,c2,A5,x.n2,c5⟩) 77)::(N5++(N2++[]))) (mA ⟨.inl rfl,fun y hy=> .inr ((List.mem_append.1 hy).elim (fun h=>⟨mL h,(HN5.out y h).2⟩) (fun h=>⟨mR (mL (by simpa using h)),(HN2.out y (by simpa using h)).2⟩))⟩) ?_)
 intro he5
 refine eM fun u7 EX6=>?_
 have HKT:Hid (KeptA (N5++N2) (fun u=>TxOk u ⟨x.r,A2,x.n1,c2,A5,x.n2,c5⟩)):=q8f HTX.out HF2.out HF5.out (fun y hy=>mR hy) (fun y hy=>mL hy)
 have HBX:Hid (∀y∈N5++N2,y∈((w.heap.size+1,oc (txA ⟨x.r,A2,x.n1,c2,A5,x.n2,c5⟩) 77)::(N5++(N2++[])))):=fun y hy=>mT (by simpa using hy)
 have HEX:=hD EX6.out
 have HFR:Hid (∀y∈N5++N2,w.heap.size≤y.1∧u7.heap[y.1]?=some y.2):=fun y hy=>⟨(List.mem_append.1 hy).elim (fun h=>(HN5.out y h).1) (fun h=>(HN2.out y h).1),EnvX.box HEX.out _ _ (HBX.out y hy)⟩
 have Q0:=hD (EnvX.box EX6.out _ _ mH)
 have HBEL:=hD EX6.out.bel
 go_wp2_with ((with_reducible refine bodyPost_ret (v:= .agg (txA ⟨x.r,A2,x.n1,c2,A5,x.n2,c5⟩)) ?_ ?_ ?_);(exact results_cell_row (p:=2) (ty:=77) results99 _ _ (w.heap.size+1) 77 (txA ⟨x.r,A2,x.n1,c2,A5,x.n2,c5⟩) (0,0) _ rfl Q0.out underlying77 rfl (j5i _ (j0Y _)));(rfl))
 first|exact⟨_,N5++N2,rfl,⟨⟨x.r,A2,x.n1,c2,A5,x.n2,c5⟩,rfl,rfl,HKT.out⟩,HBEL.out,HFR.out⟩|exact⟨N5++N2,⟨⟨x.r,A2,x.n1,c2,A5,x.n2,c5⟩,rfl,rfl,HKT.out⟩,HBEL.out,fun a b hy=>HFR.out (a,b) hy⟩
theorem x1C(l:List TxM)(A:Option Addr)(n c:Nat)(w:World)(hl:l.length=n)(hn:n≤1000000)(hA:TxsIn w A l)(hf: ∀x∈l,q6x x.r):j1T 98 #[.slice A n c, .func (.func 99) #[] #[]] w (x2O l n):=by
 unfold j1T
 have HL:=hD hl
 have HN6:Hid (n≤1000000):=by show _≤_;omega
 have HN63:Hid (n<9223372036854775808):=by show _<_;omega
 have HNM:Hid (n≤maxLen):=by show _≤_;unfold maxLen;omega
 have HAA:=hD hA
 have HFW:=hD hf
 have HFN:Hid (∀(u:World)(x:TxM),EnvX w u []→TxOk w x→q6x x.r→j1T 99 #[txV x] u (RTx x.r)):=fun u x hu hx hm=>q8M x u (hx.up (EnvX.bel hu)) hm
 have E1:Hid (EnvX w w []):=EnvX.start w
 clear hl hn hA hf
 go_enter func98,ntmps98
 go_upto_region 1 with (fail)
 refine rgQ [0,1] [2,3] E1 rfl fun hw=>?_
 refine qo rfl hw ?_
 refine qv rfl (fun u hu=>j0l underlying23 HN63.out u rfl) hw ?_
 refine j0b<|(j0k (R:=fun v N=> ∃g cur,v= .slice (some ⟨g,0,none⟩) 0 n∧N=[(g,oc cur 77)]∧cur.size=n*2) (M0:=[]) rfl rfl (fun _ h=>h) (fun u hu=>j42 x3L HN6.out rfl u) ?_)
 rintro _ _ ⟨gm,cm,rfl,rfl,hcm⟩ hf he2;intro K' hK';go_big_quiet_op;go_big_quiet_on
 have HCM:=hD hcm
 have HGM:=hD (hf _ (mS.2 rfl))
 clear hcm
 clear hf
 refine phE [3] [] he2 fun hw=>?_
 refine qo rfl hw ?_
 refine enP fun u5 EX4=>?_
 go_upto_region 2 with (fail)
 refine rgQ [0,1,2] [] EX4 rfl fun hw=>?_
 refine qo rfl hw ?_
 refine qv rfl (fun u hu=>j0l underlying23 HN63.out u rfl) hw ?_
 refine qo rfl hw ?_
 refine enP fun u8 EX7=>?_
 have HST:Hid (∃q Nx N,q.length=0∧FreshR 77 2 0 (q.map txC).flatten (.slice (some ⟨gm,0,none⟩) 0 n) Nx∧(∀y∈Nx,w.heap.size≤y.1)∧(∀y∈N,w.heap.size≤y.1∧ ∀z∈Nx,y.1≠z.1)∧CopT l q N∧EnvX w u8 (Nx++N)):=⟨[],[(gm,oc cm 77)],[],rfl, .inl ⟨gm,n,cm,rfl,rfl,Nat.zero_le _,HNM.out,HCM.out,by rw[Nat.zero_mul,List.take_zero];rfl⟩,(fun y hy=>by cases mS.1 hy;exact HGM.out.1),(fun y hy=>by cases hy),(fun j hj=>absurd hj (Nat.not_lt_zero j)),EX7.out⟩
 clear EX7 E1 HCM HGM
 go_upto_region 3 with (fail)
 go_loopw [5,13] (fun v iv u=> ∃k:Nat,k≤n∧iv= .int .i64 (k:Int)∧Hid (∃q Nx N,q.length=k∧FreshR 77 2 k (q.map txC).flatten v Nx∧(∀y∈Nx,w.heap.size≤y.1)∧(∀y∈N,w.heap.size≤y.1∧ ∀z∈Nx,y.1≠z.1)∧CopT l q N∧EnvX w u (Nx++N))) (fun _ iv _=>n- (intOf iv).toNat)
 case atStart=>exact⟨0,by omega,rfl,HST⟩
 case round=>
  obtain⟨k,hk,rfl,hinv⟩:=hrel
  obtain⟨q,Nx,N,hq,hF,hB,hN,hCP,hE⟩:=hinv.out
  obtain⟨A',c',rfl,hc1,hc2⟩:=FreshR.formR hF
  have EK:=hD hE
  have HCP:=hD hCP
  have HNN:=hD hN
  have HNX0:=hD hB
  have HF:=hD hF
  have HQ:=hD hq
  have HC1:=hD (And.intro hc1 hc2)
  clear hinv HST hE hCP hN hB hF hq hc1 hc2
  by_cases hlt:k<n
  · have C2:Hid (decide ((k:Int)<(n:Int))=true):=decide_eq_true (by omega)
    have HI:=hD hlt
    have hil:k<l.length:=by rw[HL.out];exact hlt
    obtain⟨ad,rfl,-,hld⟩:=HAA.out.loads hil
    have HLD:Hid (∀u,EnvX w u []→(loadVar 77 (ad.add (k*2))).run Tryz.prog u= .ok (txV (l.getD k j0A)) u):=fun u hu=>(hld u hu).1
    have HTX:=hD (HAA.out.get hil)
    have HMX:=hD (HFW.out (l.getD k j0A) (by rw[gD,gE hil];exact List.getElem_mem hil))
    obtain⟨x,hx⟩: ∃x,l.getD k j0A=x:=⟨_,rfl⟩
    rw[hx]at HLD HTX HMX
    have HX:=hD hx
    have HFX:Hid (∀u,EnvX w u []→j1T 99 #[txV x] u (RTx x.r)):=fun u hu=>HFN.out u x hu HTX.out HMX.out
    have HFL:Hid ((q.map txC).flatten.length=k*2):=by
     show _=_
     have hR:isRows 2 (q.map txC):=fun y hy=>by
      obtain⟨t,ht,rfl⟩:=List.mem_map.1 hy
      rfl
     rw[hR.flat_len,lM,HQ.out]
    clear hld hil hlt hx
    go_upto_region 3 with (fail)
    refine rgQ [0] [] EK rfl fun hw=>?_
    refine qv rfl (fun u hu=>j0o u C2.out rfl rfl) hw ?_
    refine enP fun u23 EX22=>?_
    go_upto_region 4 with (fail)
    refine rgQ [0,1] [2,3] EX22 rfl fun hw=>?_
    refine qv rfl (fun u hu=>j0h underlying23 aggTx.size HI.out u rfl rfl) hw ?_
    refine qv rfl (fun u hu=>j0a u (HLD.out u (nl hu)) rfl) hw ?_
    refine j0b<|qn rfl (j6G _) fun g7 HG7 he25=>?_
    change j1E _ _ _ _ _ _ ((g7,oc (txA j0A) 77)::(Nx++N))
    refine(sh rfl HG7 (j5i _ (j0Y _)) ((j0Y _).trans (j0Y _).symm) (j3I _) ?_)
    refine fun _=>enL fun u28 EX27=>?_
    go_upto_region 5 with (fail)
    refine rgQ [0,1,2] [3,4,5,6] EX27 rfl fun hw=>?_
    refine qw 2 hw ?_
    refine ql rfl mH trivial hw ?_
    refine j0b<|(j0k (R:=RTx x.r) (M0:=((g7,oc (txA x) 77)::(Nx++N))) rfl rfl (fun _ h=>h) (fun u hu=>q1t (f:=99) (args:= #[txV x]) (caps:= #[]) (all:= #[txV x]) rfl rfl rfl func99 rfl rfl u (HFX.out u (nl hu))) ?_)
    rintro _ Nb hF hf he30;intro K' hK';go_big_quiet_op;go_big_quiet_on
    obtain⟨t7,rfl,hr7,hk7⟩:=hF
    have HR7:=hD hr7
    have HK7:=hD hk7
    have HNb:Hid (∀y∈Nb,w.heap.size≤y.1∧ ∀z∈Nx,y.1≠z.1):=fun y hy=>⟨(hf y hy).1,fun z MEM e=>(hf y hy).2 z (mT (mL MEM)) e.symm⟩
    clear hr7 hk7
    clear hf
    change j1E _ _ _ _ _ _ (Nb++((g7,oc (txA x) 77)::(Nx++N)))
    refine(j0k (R:=j2R 77 (txC t7)) (M0:=(Nb++((g7,oc (txA x) 77)::(Nx++N)))) rfl rfl (fun _ h=>h) (fun u hu=>j1q x3L rfl (j9f _) rfl u) ?_)
    rintro _ _ ⟨gb,rfl,rfl⟩ hf he31;intro K' hK';go_big_quiet_op;go_big_quiet_on
    clear hf
    change j1E _ _ _ _ _ _ ((gb,oc (txC t7).toArray 77)::(Nb++((g7,oc (txA x) 77)::(Nx++N))))
    refine(j03 (gd:=none) (R:=j1N w 77 2 (k+1) ((q.map txC).flatten++txC t7) (N++Nb)) rfl rfl rfl rfl (fun u hu=>j1H x3L (m:=1) (N++Nb) hu HFL.out (by rw[Nat.one_mul];exact rfl) (j9f _) HF.out (fun y MEM=>⟨(mT (mR (mT (mL MEM)))),HNX0.out y MEM⟩) (j1p (k:=0) hu mH (by rw[List.drop_zero,List.take_length])) (fun y hy=>(List.mem_append.1 hy).elim (fun MEM=>⟨(mT (mR (mT (mR MEM)))),fun z hz=>(HNN.out y MEM).2 z hz⟩) (fun MEM=>⟨(mT (mL MEM)),fun z hz=>(HNb.out y MEM).2 z hz⟩)) (by have:=HI.out;have:=HN6.out;omega) rfl rfl) ?_)
    rintro x9 M' ⟨N9,rfl,hF9,hn9⟩ he32;intro K' hK';go_big_quiet_op;go_big_quiet_on
    have HF9:=hD (And.intro hF9 hn9)
    clear hF9 hn9
    refine phE [6] [] he32 fun hw=>?_
    refine qo rfl hw ?_
    refine enP fun u35 EX34=>?_
    have HNX:Hid (∃q Nx N,q.length=(k+1)∧FreshR 77 2 (k+1) (q.map txC).flatten x9 Nx∧(∀y∈Nx,w.heap.size≤y.1)∧(∀y∈N,w.heap.size≤y.1∧ ∀z∈Nx,y.1≠z.1)∧CopT l q N∧EnvX w u35 (Nx++N)):=⟨q++[t7],N9,N++Nb,by rw[lA,HQ.out];rfl,by rw[List.map_append,List.flatten_append,List.map_singleton,List.flatten_singleton];exact HF9.out.1,(fun y hy=>(HF9.out.2 y hy).1),(fun y hy=>⟨(List.mem_append.1 hy).elim (fun h=>(HNN.out y h).1) (fun h=>(HNb.out y h).1),fun z hz=>(HF9.out.2 z hz).2 y hy⟩),HCP.out.step (by rw[HR7.out,HQ.out,HX.out]) (HK7.out.mono (fun y hy=>mR hy)) (fun y hy=>mL hy),EX34.out⟩
    have hii:=HI.out
    have hn:=HN63.out
    go_wp2
    go_roundw
    case rel=>exact⟨k+1,by omega,by go_num,HNX⟩
    case measure=>simp[intOf];omega
  · obtain rfl:k=n:=by omega
    have C2:Hid (decide ((k:Int)<(k:Int))=false):=decide_eq_false (by omega)
    have HD:=hD (HCP.out.done (by rw[HQ.out,HL.out]))
    go_upto_region 3 with (fail)
    refine rgQ [0] [] EK rfl fun hw=>?_
    refine qv rfl (fun u hu=>j0o u C2.out rfl rfl) hw ?_
    refine enP fun u303 EX302=>?_
    go_upto_region 7 with (fail)
    refine rgQ [0,1] [] EX302 rfl fun hw=>?_
    refine qw 2 hw ?_
    refine enP fun u306 EX305=>?_
    have HBE:=hD (EnvX.bel EX305.out)
    have HBX:=hD (fun(y:Nat × Obj)(hy:y∈Nx++N)=>EnvX.box EX305.out _ _ hy)
    have HLO:Hid (∀y∈Nx++N,w.heap.size≤y.1∧u306.heap[y.1]?=some y.2):=fun y hy=>⟨(List.mem_append.1 hy).elim (fun h=>HNX0.out y h) (fun h=>(HNN.out y h).1),HBX.out y hy⟩
    have HRX:Hid (x2O l k (.slice A' k c') (Nx++N)):=⟨q,A',c',rfl,HC1.out.1,HC1.out.2,HQ.out,HD.out.1,fun w0 u M hu hM=>⟨j2W HF.out (by rw[(j6M q).flat_len,lM,HQ.out]) w0 u M hu (fun y hy=>hM y (mL hy)),fun t ht=>(HD.out.2 t ht) w0 u M hu (fun y hy=>hM y (mR hy))⟩⟩
    go_wp2
    go_returns
    first|exact⟨_,_,rfl,HRX.out,HBE.out,HLO.out⟩|exact⟨_,HRX.out,HBE.out,fun a b hy=>HLO.out (a,b) hy⟩
theorem q2L(b:BlkM)(w:World)(kb:BlkOk w b)(mb:j2c b):j1T 45 #[j1O b] w (q8I b.r):=by
 unfold j1T
 have HOB:Hid (okHd b.h):=kb.h
 have HLE:Hid (w.heap.size≤w.heap.size+1):=by show _≤_;omega
 have HNB:Hid (j0M noBlkM.h):=j1k
 have l1:=kb.l1
 have m1:=mb.1
 have l2:=kb.l2
 have m2:=mb.2.1
 have HIL:=hD (And.intro kb.l1 kb.o1)
 have HCL:Hid (∀u,EnvX w u []→Calls Tryz.prog 97 #[.slice b.A1 b.n1 b.c1] u fun e w'=>(∃v,e= .returned v∧w'.ownsRow u.heap.size 26 32 v b.n1 ((b.l).flatten.map u8v))∧Below u.heap.size u w'):=fun u hu=>by have h:=j54 b.l b.A1 b.n1 b.c1 u kb.l1 (by omega) kb.o1 (kb.m1.up (EnvX.bel hu));unfold OwnI at h;rw[kb.l1]at h;exact h
 have HCX:Hid (∀u,EnvX w u []→j1T 98 #[.slice b.A2 b.n2 b.c2, .func (.func 99) #[] #[]] u (x2O b.t b.n2)):=fun u hu=>x1C b.t b.A2 b.n2 b.c2 u kb.l2 (by omega) (kb.m2.up (EnvX.bel hu)) mb.2.2
 have E1:Hid (EnvX w ((w.alloc (.cells (j0L b) 37)).alloc (.cells (j0L noBlkM) 37)) [(w.heap.size+1,oc (j0L noBlkM) 37),(w.heap.size,oc (j0L b) 37)]):=(EnvX.start w).two _ _
 clear kb mb l1 m1 l2 m2
 unfold j1O
 go_enter func45,ntmps45
 go_upto_region 1 with (fail)
 rw[←j4w]
 generalize (w.alloc (.cells (j0L b) 37)).alloc (.cells (j0L noBlkM) 37)=W at *
 refine rgK [0,1,2,3,5,6] 4 E1 rfl fun hw=>?_
 refine qf rfl hw ?_
 refine qv rfl (fun u hu=>j0a u (j0B HOB.out.len (j02 hu (mT mH) HOB.out.len)).1 rfl) hw ?_
 refine qf rfl hw ?_
 refine ql rfl (mT mH) HOB.out.len hw ?_
 refine qf rfl hw ?_
 refine ql rfl (mT mH) HOB.out.len hw ?_
 refine j0b<|aO 4 (qr rfl func97 (fun u hu=>j0i (HCL.out u (nl hu))) ?_)
 rintro x N4 hF hf he2
 obtain⟨A4,c4,rfl,k1,k2⟩:=FreshR.formR hF
 have HF4:=hD (And.intro hF (And.intro k1 k2))
 have HN4:Hid (∀y∈N4,w.heap.size≤y.1∧y.1≠w.heap.size+1):=fun y hy=>⟨(hf y hy).1,fun h=>(hf y hy).2 _ mH h.symm⟩
 clear hF k1 k2
 clear hf
 change j1s _ _ _ _ _ _ _ _ (N4++((w.heap.size+1,oc (j0L noBlkM) 37)::((w.heap.size,oc (j0L b) 37)::[])))
 refine aO 7 (qr rfl func98 (fun u hu=>HCX.out u (nl hu)) ?_)
 rintro x N7 hF hf he3
 obtain⟨q7,A7,c7,rfl,k1,k2,kq,kr,kk⟩:=hF
 have HK1:=hD k1
 have HK2:=hD k2
 have HKQ:=hD kq
 have HKR:=hD kr
 have HKK:=hD kk
 have HN7:Hid (∀y∈N7,w.heap.size≤y.1∧y.1≠w.heap.size+1):=fun y hy=>⟨(hf y hy).1,fun h=>(hf y hy).2 _ (mR mH) h.symm⟩
 clear k1 k2 kq kr kk
 clear hf
 refine phF [8] 1 rfl he3 fun hw=>?_
 refine qv (v:= .agg (j0L ⟨b.h,b.l,A4,b.n1,c4,q7,A7,b.n2,c7⟩)) rfl (fun u hu=>j0p u (j7q (b:=⟨b.h,b.l,A4,b.n1,c4,q7,A7,b.n2,c7⟩) HOB.out.len)) hw ?_
 refine j0b<|aO 9 (j0z rfl (w.heap.size+1) (j0L ⟨b.h,b.l,A4,b.n1,c4,q7,A7,b.n2,c7⟩) rfl rfl HLE.out 37 ((j0L noBlkM)) (mR (mR mH)) (j1J _ (j0O (b:=⟨b.h,b.l,A4,b.n1,c4,q7,A7,b.n2,c7⟩) HOB.out.len)) (j1D (b:=⟨b.h,b.l,A4,b.n1,c4,q7,A7,b.n2,c7⟩) HOB.out.len) (j15 _) ((w.heap.size+1,oc (j0L ⟨b.h,b.l,A4,b.n1,c4,q7,A7,b.n2,c7⟩) 37)::(N7++(N4++[]))) (mA ⟨.inl rfl,fun y hy=> .inr ((List.mem_append.1 hy).elim (fun h=>⟨mL h,(HN7.out y h).2⟩) (fun h=>⟨mR (mL (by simpa using h)),(HN4.out y (by simpa using h)).2⟩))⟩) ?_)
 intro he5
 refine eM fun u7 EX6=>?_
 have HIS:Hid (∀w0 u M,EnvX w0 u M→(∀y∈N7++N4,y∈M)→j5Q b.r ⟨b.h,b.l,A4,b.n1,c4,q7,A7,b.n2,c7⟩ u):=fun w0 u M hu hM=>⟨by show BlkR.mk b.h b.l (rsT q7)=BlkR.mk b.h b.l (rsT b.t);rw[HKR.out],⟨HOB.out,HIL.out.1,HF4.out.2,HIL.out.2,j83 HF4.out.1 HIL.out.1 HIL.out.2 w0 u M hu (fun y hy=>hM y (mR hy)),HKQ.out,⟨HK1.out,HK2.out⟩,HKK.out w0 u M hu (fun y hy=>hM y (mL hy))⟩⟩
 have HBX:Hid (∀y∈N7++N4,y∈((w.heap.size+1,oc (j0L ⟨b.h,b.l,A4,b.n1,c4,q7,A7,b.n2,c7⟩) 37)::(N7++(N4++[])))):=fun y hy=>mT (by simpa using hy)
 have HEX:=hD EX6.out
 have HFR:Hid (∀y∈N7++N4,w.heap.size≤y.1∧u7.heap[y.1]?=some y.2):=fun y hy=>⟨(List.mem_append.1 hy).elim (fun h=>(HN7.out y h).1) (fun h=>(HN4.out y h).1),EnvX.box HEX.out _ _ (HBX.out y hy)⟩
 have Q0:=hD (EnvX.box EX6.out _ _ mH)
 have HBEL:=hD EX6.out.bel
 go_wp2_with ((with_reducible refine bodyPost_ret (v:= .agg (j0L ⟨b.h,b.l,A4,b.n1,c4,q7,A7,b.n2,c7⟩)) ?_ ?_ ?_);(exact results_cell_row (p:=2) (ty:=37) results45 _ _ (w.heap.size+1) 37 (j0L ⟨b.h,b.l,A4,b.n1,c4,q7,A7,b.n2,c7⟩) (0,0) _ rfl Q0.out underlying37 rfl (j1J _ (j0O (b:=⟨b.h,b.l,A4,b.n1,c4,q7,A7,b.n2,c7⟩) HOB.out.len)));(rfl))
 first|exact⟨_,N7++N4,rfl,⟨⟨b.h,b.l,A4,b.n1,c4,q7,A7,b.n2,c7⟩,rfl,HIS.out,_,HIS.out _ _ _ HEX.out HBX.out⟩,HBEL.out,HFR.out⟩|exact⟨N7++N4,⟨⟨b.h,b.l,A4,b.n1,c4,q7,A7,b.n2,c7⟩,rfl,HIS.out,_,HIS.out _ _ _ HEX.out HBX.out⟩,HBEL.out,fun a b hy=>HFR.out (a,b) hy⟩
theorem x1Y(l:List BlkM)(A:Option Addr)(n c:Nat)(w:World)(hl:l.length=n)(hn:n≤1000000)(hA:BlksIn w A l)(hf: ∀x∈l,j2c x):j1T 44 #[.slice A n c, .func (.func 45) #[] #[]] w (x2q (rsB l) n):=by
 unfold j1T
 have HL:=hD hl
 have HN6:Hid (n≤1000000):=by show _≤_;omega
 have HN63:Hid (n<9223372036854775808):=by show _<_;omega
 have HNM:Hid (n≤maxLen):=by show _≤_;unfold maxLen;omega
 have HAA:=hD hA
 have HFW:=hD hf
 have HFN:Hid (∀(u:World)(x:BlkM),EnvX w u []→BlkOk w x→j2c x→j1T 45 #[j1O x] u (q8I x.r)):=fun u x hu hx hm=>q2L x u (hx.up (EnvX.bel hu)) hm
 have E1:Hid (EnvX w w []):=EnvX.start w
 clear hl hn hA hf
 go_enter func44,ntmps44
 go_upto_region 1 with (fail)
 refine rgQ [0,1] [2,3] E1 rfl fun hw=>?_
 refine qo rfl hw ?_
 refine qv rfl (fun u hu=>j0l underlying22 HN63.out u rfl) hw ?_
 refine j0b<|(j0k (R:=fun v N=> ∃g cur,v= .slice (some ⟨g,0,none⟩) 0 n∧N=[(g,oc cur 37)]∧cur.size=n*137) (M0:=[]) rfl rfl (fun _ h=>h) (fun u hu=>j42 j13 HN6.out rfl u) ?_)
 rintro _ _ ⟨gm,cm,rfl,rfl,hcm⟩ hf he2;intro K' hK';go_big_quiet_op;go_big_quiet_on
 have HCM:=hD hcm
 have HGM:=hD (hf _ (mS.2 rfl))
 clear hcm
 clear hf
 refine phE [3] [] he2 fun hw=>?_
 refine qo rfl hw ?_
 refine enP fun u5 EX4=>?_
 go_upto_region 2 with (fail)
 refine rgQ [0,1,2] [] EX4 rfl fun hw=>?_
 refine qo rfl hw ?_
 refine qv rfl (fun u hu=>j0l underlying22 HN63.out u rfl) hw ?_
 refine qo rfl hw ?_
 refine enP fun u8 EX7=>?_
 have HST:Hid (∃q Nx N,q.length=0∧FreshR 37 137 0 (q.map j04).flatten (.slice (some ⟨gm,0,none⟩) 0 n) Nx∧(∀y∈Nx,w.heap.size≤y.1)∧(∀y∈N,w.heap.size≤y.1∧ ∀z∈Nx,y.1≠z.1)∧CopB l q N∧EnvX w u8 (Nx++N)):=⟨[],[(gm,oc cm 37)],[],rfl, .inl ⟨gm,n,cm,rfl,rfl,Nat.zero_le _,HNM.out,HCM.out,by rw[Nat.zero_mul,List.take_zero];rfl⟩,(fun y hy=>by cases mS.1 hy;exact HGM.out.1),(fun y hy=>by cases hy),(fun j hj=>absurd hj (Nat.not_lt_zero j)),EX7.out⟩
 clear EX7 E1 HCM HGM
 go_upto_region 3 with (fail)
 go_loopw [5,13] (fun v iv u=> ∃k:Nat,k≤n∧iv= .int .i64 (k:Int)∧Hid (∃q Nx N,q.length=k∧FreshR 37 137 k (q.map j04).flatten v Nx∧(∀y∈Nx,w.heap.size≤y.1)∧(∀y∈N,w.heap.size≤y.1∧ ∀z∈Nx,y.1≠z.1)∧CopB l q N∧EnvX w u (Nx++N))) (fun _ iv _=>n- (intOf iv).toNat)
 case atStart=>exact⟨0,by omega,rfl,HST⟩
 case round=>
  obtain⟨k,hk,rfl,hinv⟩:=hrel
  obtain⟨q,Nx,N,hq,hF,hB,hN,hCP,hE⟩:=hinv.out
  obtain⟨A',c',rfl,hc1,hc2⟩:=FreshR.formR hF
  have EK:=hD hE
  have HCP:=hD hCP
  have HNN:=hD hN
  have HNX0:=hD hB
  have HF:=hD hF
  have HQ:=hD hq
  have HC1:=hD (And.intro hc1 hc2)
  clear hinv HST hE hCP hN hB hF hq hc1 hc2
  by_cases hlt:k<n
  · have C2:Hid (decide ((k:Int)<(n:Int))=true):=decide_eq_true (by omega)
    have HI:=hD hlt
    have hil:k<l.length:=by rw[HL.out];exact hlt
    obtain⟨ad,rfl,-,hld⟩:=HAA.out.loads hil
    have HLD:Hid (∀u,EnvX w u []→(loadVar 37 (ad.add (k*137))).run Tryz.prog u= .ok (j1O (l.getD k noBlkM)) u):=fun u hu=>(hld u hu).1
    have HTX:=hD (HAA.out.get hil)
    have HMX:=hD (HFW.out (l.getD k noBlkM) (by rw[gD,gE hil];exact List.getElem_mem hil))
    obtain⟨x,hx⟩: ∃x,l.getD k noBlkM=x:=⟨_,rfl⟩
    rw[hx]at HLD HTX HMX
    have HX:=hD hx
    have HFX:Hid (∀u,EnvX w u []→j1T 45 #[j1O x] u (q8I x.r)):=fun u hu=>HFN.out u x hu HTX.out HMX.out
    have HFL:Hid ((q.map j04).flatten.length=k*137):=by
     show _=_
     have hR:isRows 137 (q.map j04):=fun y hy=>by
      obtain⟨t,ht,rfl⟩:=List.mem_map.1 hy
      obtain⟨j,hj,rfl⟩:=List.getElem_of_mem ht
      have h:=(HCP.out j hj).2 w _ _ EK.out (fun y hy=>mR hy)
      rw[gD,gE hj]at h
      exact j0y (BlkOk.h h).len
     rw[hR.flat_len,lM,HQ.out]
    clear hld hil hlt hx
    have HKx:Hid (j0M x.h):=HTX.out.h.len
    go_upto_region 3 with (fail)
    refine rgQ [0] [] EK rfl fun hw=>?_
    refine qv rfl (fun u hu=>j0o u C2.out rfl rfl) hw ?_
    refine enP fun u23 EX22=>?_
    go_upto_region 4 with (fail)
    refine rgQ [0,1] [2,3] EX22 rfl fun hw=>?_
    refine qv rfl (fun u hu=>j0h underlying22 aggBlk.size HI.out u rfl rfl) hw ?_
    refine qv rfl (fun u hu=>j0a u (HLD.out u (nl hu)) rfl) hw ?_
    refine j0b<|qn rfl (j4R _) fun g7 HGg7 he25=>?_
    change j1E _ _ _ _ _ _ ((g7,oc (j0L noBlkM) 37)::(Nx++N))
    refine(sh rfl HGg7 (j1J _ (j0O HKx.out)) (j1D HKx.out) (j15 _) ?_)
    refine fun _=>enL fun u28 EX27=>?_
    go_upto_region 5 with (fail)
    refine rgQ [0,1,2] [3,4,5,6] EX27 rfl fun hw=>?_
    refine qw 2 hw ?_
    refine ql rfl mH HKx.out hw ?_
    refine j0b<|(j0k (R:=q8I x.r) (M0:=((g7,oc (j0L x) 37)::(Nx++N))) rfl rfl (fun _ h=>h) (fun u hu=>q1t (f:=45) (args:= #[j1O x]) (caps:= #[]) (all:= #[j1O x]) rfl rfl rfl func45 rfl rfl u (HFX.out u (nl hu))) ?_)
    rintro _ Nb hF hf he30;intro K' hK';go_big_quiet_op;go_big_quiet_on
    obtain⟨t7,rfl,hkk,hv7⟩:=hF
    have hr7:t7.r=x.r:=hv7.choose_spec.1
    have hk7:KeptA Nb (fun u=>BlkOk u t7):=fun w0 u M hu hM=>(hkk w0 u M hu hM).2
    have HLT7:Hid (j0M t7.h):=hv7.choose_spec.2.h.len
    clear hkk hv7
    have HR7:=hD hr7
    have HK7:=hD hk7
    have HNb:Hid (∀y∈Nb,w.heap.size≤y.1∧ ∀z∈Nx,y.1≠z.1):=fun y hy=>⟨(hf y hy).1,fun z MEM e=>(hf y hy).2 z (mT (mL MEM)) e.symm⟩
    clear hr7 hk7
    clear hf
    change j1E _ _ _ _ _ _ (Nb++((g7,oc (j0L x) 37)::(Nx++N)))
    refine(j0k (R:=j2R 37 (j04 t7)) (M0:=(Nb++((g7,oc (j0L x) 37)::(Nx++N)))) rfl rfl (fun _ h=>h) (fun u hu=>j1q j13 (j0y HLT7.out) (j09 _) rfl u) ?_)
    rintro _ _ ⟨gb,rfl,rfl⟩ hf he31;intro K' hK';go_big_quiet_op;go_big_quiet_on
    clear hf
    change j1E _ _ _ _ _ _ ((gb,oc (j04 t7).toArray 37)::(Nb++((g7,oc (j0L x) 37)::(Nx++N))))
    refine(j03 (gd:=none) (R:=j1N w 37 137 (k+1) ((q.map j04).flatten++j04 t7) (N++Nb)) rfl rfl rfl rfl (fun u hu=>j1H j13 (m:=1) (N++Nb) hu HFL.out (by rw[Nat.one_mul];exact(j0y HLT7.out)) (j09 _) HF.out (fun y MEM=>⟨(mT (mR (mT (mL MEM)))),HNX0.out y MEM⟩) (j1p (k:=0) hu mH (by rw[List.drop_zero,List.take_length])) (fun y hy=>(List.mem_append.1 hy).elim (fun MEM=>⟨(mT (mR (mT (mR MEM)))),fun z hz=>(HNN.out y MEM).2 z hz⟩) (fun MEM=>⟨(mT (mL MEM)),fun z hz=>(HNb.out y MEM).2 z hz⟩)) (by have:=HI.out;have:=HN6.out;omega) rfl rfl) ?_)
    rintro x9 M' ⟨N9,rfl,hF9,hn9⟩ he32;intro K' hK';go_big_quiet_op;go_big_quiet_on
    have HF9:=hD (And.intro hF9 hn9)
    clear hF9 hn9
    refine phE [6] [] he32 fun hw=>?_
    refine qo rfl hw ?_
    refine enP fun u35 EX34=>?_
    have HNX:Hid (∃q Nx N,q.length=(k+1)∧FreshR 37 137 (k+1) (q.map j04).flatten x9 Nx∧(∀y∈Nx,w.heap.size≤y.1)∧(∀y∈N,w.heap.size≤y.1∧ ∀z∈Nx,y.1≠z.1)∧CopB l q N∧EnvX w u35 (Nx++N)):=⟨q++[t7],N9,N++Nb,by rw[lA,HQ.out];rfl,by rw[List.map_append,List.flatten_append,List.map_singleton,List.flatten_singleton];exact HF9.out.1,(fun y hy=>(HF9.out.2 y hy).1),(fun y hy=>⟨(List.mem_append.1 hy).elim (fun h=>(HNN.out y h).1) (fun h=>(HNb.out y h).1),fun z hz=>(HF9.out.2 z hz).2 y hy⟩),HCP.out.step (by rw[HR7.out,HQ.out,HX.out]) (HK7.out.mono (fun y hy=>mR hy)) (fun y hy=>mL hy),EX34.out⟩
    have hii:=HI.out
    have hn:=HN63.out
    go_wp2
    go_roundw
    case rel=>exact⟨k+1,by omega,by go_num,HNX⟩
    case measure=>simp[intOf];omega
  · obtain rfl:k=n:=by omega
    have C2:Hid (decide ((k:Int)<(k:Int))=false):=decide_eq_false (by omega)
    have HD:=hD (HCP.out.done (by rw[HQ.out,HL.out]))
    go_upto_region 3 with (fail)
    refine rgQ [0] [] EK rfl fun hw=>?_
    refine qv rfl (fun u hu=>j0o u C2.out rfl rfl) hw ?_
    refine enP fun u303 EX302=>?_
    go_upto_region 7 with (fail)
    refine rgQ [0,1] [] EX302 rfl fun hw=>?_
    refine qw 2 hw ?_
    refine enP fun u306 EX305=>?_
    have HBE:=hD (EnvX.bel EX305.out)
    have HBX:=hD (fun(y:Nat × Obj)(hy:y∈Nx++N)=>EnvX.box EX305.out _ _ hy)
    have HLO:Hid (∀y∈Nx++N,w.heap.size≤y.1∧u306.heap[y.1]?=some y.2):=fun y hy=>⟨(List.mem_append.1 hy).elim (fun h=>HNX0.out y h) (fun h=>(HNN.out y h).1),HBX.out y hy⟩
    have HRX:Hid (x2q (rsB l) k (.slice A' k c') (Nx++N)):=⟨q,Nx,N,rfl,HQ.out,HD.out.1,HF.out,(fun y hy z hz=>(HNN.out y hy).2 z hz),HD.out.2⟩
    go_wp2
    go_returns
    first|exact⟨_,_,rfl,HRX.out,HBE.out,HLO.out⟩|exact⟨_,HRX.out,HBE.out,fun a b hy=>HLO.out (a,b) hy⟩
def x4j(M:j0e)(r:TipR)(e:Nat)(t:TipM)(N Nc:j0e):Prop:=(∃v,IsTip r t v)∧(e=0→KeptA N (fun v=>j5Q r.b t.b v∧TotsIn v v.heap.size t.A3 t.p)∧CoB t.c t.A4 Nc∧ ∀y∈N,∀z∈M,z.1≠y.1)
theorem q8p {f:FuncId} {args:Array Value} {u w0:World} {M:j0e} {r:TipR} {e:Nat} (h:Calls Tryz.prog f args u fun en w'=>(∃t:TipM,en= .returned (.tuple #[j29 t, .int .i64 (e:Int)])∧IsTip r t w'∧(e=0→x39 r t u.heap.size w'))∧Below u.heap.size u w') (hu:EnvX w0 u M):
  Calls Tryz.prog f args u fun en w'=> ∃x M',en= .returned x∧EnvX w0 w' M'∧ ∃t N Nc,x= .tuple #[j29 t, .int .i64 (e:Int)]∧M'=N++(Nc++M)∧x4j M r e t N Nc∧ ∀y∈N,w0.heap.size≤y.1:=
 h.mono fun en w'⟨⟨t,he,hi,hs⟩,hb⟩=>by
  have hE:=EnvX.below hu hb
  by_cases h0:e=0
  · obtain⟨N,Nc,hk,hc,hN,hNc⟩:=hs h0
    refine⟨_,N++(Nc++M),he,⟨hE.bel,fun g o hm=>?_⟩,t,N,Nc,rfl,rfl,⟨⟨_,hi⟩,fun _=>⟨hk,hc,fun y hy z hz e=>?_⟩⟩,fun y hy=>Nat.le_trans (EnvX.bel hu).size (hN y hy).1⟩
    · rcases List.mem_append.1 hm with h|h
      · exact(hN (g,o) h).2
      · rcases List.mem_append.1 h with h|h
        · exact hNc (g,o) h
        · exact hE.box g o h
    · have h1:=hu.lt (g:=z.1) (o:=z.2) hz
      have h2:=(hN y hy).1
      omega
  · exact⟨_,M,he,hE,t,[],[],rfl,rfl,⟨⟨_,hi⟩,fun h=>absurd h h0⟩,fun y hy=>by cases hy⟩
theorem x17{r:TipR}{t:TipM}{N Nc:j0e}(hv: ∃v,IsTip r t v)(hk:KeptA N (fun v=>j5Q r.b t.b v∧TotsIn v v.heap.size t.A3 t.p))(hc:CoB t.c t.A4 Nc):KeptA (N++Nc) (IsTip r t):=fun w0 u M hu hM=>by
 obtain⟨v,hr,ok⟩:=hv
 have k:=hk w0 u M hu (fun y hy=>hM y (mL hy))
 exact⟨hr,⟨k.1.2,ok.l3,ok.b3,ok.o3,k.2,ok.l4,ok.b4,ok.o4,CoB.read hc hu (fun y hy=>hM y (mR hy))⟩⟩
theorem CoB.apartB{q:List CoinR}{A:Option Addr}{M:j0e}{w0 u:World}(hq:okP q)(hu:EnvX w0 u M): ∀(BS:j0e){N:j0e},CoB q A N→(∀y∈N,y∈M)→(∀y∈BS,y∈M∧ ∃z,y.2=oc (j0j z) 41)→ ∃N',CoB q A N'∧ ∀y∈N',y∈N∧ ∀x∈BS,y.1≠x.1
 |[],N,h,_,_=>⟨N,h,fun y hy=>⟨hy,fun x hx=>by cases hx⟩⟩
 |(g,o)::BS,N,h,hN,hB=>by
  obtain⟨h1,z,h2⟩:=hB (g,o) mH
  have h2':o=oc (j0j z) 41:=h2
  subst h2'
  obtain⟨n1,c1,k1⟩:=CoB.apart h hq hu hN h1 (q4T z)
  obtain⟨n2,c2,k2⟩:=CoB.apartB hq hu BS c1 (fun y hy=>hN y (k1 y hy).1) (fun y hy=>hB y (mT hy))
  refine⟨n2,c2,fun y hy=>⟨(k1 y (k2 y hy).1).1,fun x hx=>?_⟩⟩
  rcases List.mem_cons.1 hx with h|h
  · rw[h];exact(k1 y (k2 y hy).1).2
  · exact(k2 y hy).2 x h
theorem x1M{w u:World}{M BS:j0e}(h:EnvX w u M)(hB: ∀y∈BS,w.heap[y.1]?=some y.2):EnvX w u (BS++M):=⟨h.bel,fun g o hm=>by
 rcases List.mem_append.1 hm with hb|hb
 · have h1:=hB (g,o) hb
   exact(h.bel.block g (Array.getElem?_eq_some_iff.1 h1).1).trans h1
 · exact h.box g o hb⟩
theorem q6W{M N:j0e}{g1 G:Nat}{o1:Obj}(h1:(g1,o1)∈M)(n1:g1≠G)(hN: ∀y∈N,y∈M∧y.1≠G): ∀y∈(g1,o1)::N,y∈M∧y.1≠G:=fun y hy=>by
 rcases List.mem_cons.1 hy with h|hy
 · subst h;exact⟨h1,n1⟩
 · exact hN y hy
theorem RowOk.rest{w:World}{m:RowM}(h:RowOk w m)(hn:1≤m.n):RowOk w ⟨m.l.drop 1,j5d 137 m.A 1 m.c,m.n- 1,m.c- 1⟩:=by
 have hb:=h.b
 have hl:=h.l
 refine⟨by show (m.l.drop 1).length=m.n- 1;rw[List.length_drop,hl],⟨by show m.n- 1≤m.c- 1;omega,by show m.c- 1≤maxLen;omega⟩,⟨?_,fun t ht=>h.m.each t (List.mem_of_mem_drop ht)⟩⟩
 have hR:=q3Y h.m
 have e:((m.l.drop 1).map j04).flatten=(m.l.map j04).flatten.drop (1*137):=by rw[List.map_drop,hR.flat_drop]
 show CellsIn w w.heap.size (j5d 137 m.A 1 m.c) ((m.l.drop 1).map j04).flatten
 rw[e]
 refine h.m.cells.drop 137 1 m.c ?_
 rcases Nat.lt_or_ge 1 m.c with h1|h1
 · exact .inl h1
 · refine .inr ?_
   rw[h.m.flat,hl]
   exact Nat.mul_le_mul (by omega) (Nat.le_refl _)
theorem q9k{m:RowM}(hn:1≤m.l.length):m.r=(m.l.getD 0 noBlkM).r::(RowM.r ⟨m.l.drop 1,none,0,0⟩):=by
 obtain⟨l,A,n,c⟩:=m
 cases l with
 |nil=>exact absurd hn (Nat.not_succ_le_zero 0)
 |cons b r=>rfl
theorem q7q (b0:BlkR) (t:TipM) (m:RowM) (BS N0:j0e) (w:World) (h0:(j0q [b0]).2=0) (hk:KeptA N0 (IsTip (j0q [b0]).1 t)) (hN0: ∀y∈N0,(∀x∈BS,y.1≠x.1)∧w.heap[y.1]?=some y.2) (hg: ∀y∈BS,w.heap[y.1]?=some y.2∧ ∃z,y.2=oc (j0j z) 41) (hm:RowOk w m) (mm:midRowR (b0::m.r)) (ht:Tables w):
  Calls Tryz.prog 40 #[j29 t,j4e m] w fun e w'=>(∃(u:TipM)(N:j0e),e= .returned (.tuple #[j29 u, .int .i64 ((j0q (b0::m.r)).2:Int)])∧KeptA N (IsTip (j0q (b0::m.r)).1 u)∧ ∀y∈N,(∀x∈BS,y.1≠x.1)∧w'.heap[y.1]?=some y.2)∧Below w.heap.size w w':=by
 have HM:=hD hm
 have HMM:=hD mm
 have HT:=hD ht
 have HLL:Hid (m.l.length=m.n):=hm.l
 have HN63:Hid (m.n<9223372036854775808):=hm.n63
 have HRL:Hid ((b0::m.r).length=m.n+1):=by show _=_;rw[List.length_cons,m.r_len,hm.l]
 have HBS:=hD hg
 have HBL:Hid (∀y∈BS,y.1<w.heap.size):=fun y hy=>(Array.getElem?_eq_some_iff.1 (hg y hy).1).1
 have HLE:Hid (w.heap.size≤w.heap.size+1):=by show _≤_;omega
 have HNE:Hid (w.heap.size≠w.heap.size+1∧w.heap.size+1≠w.heap.size):=by show _∧_;omega
 have HPS:Hid (∀(u:World)(s:TipM)(x:BlkM)(r2:TipR)(e2:Nat),EnvX w u []→TipOk u s→j3f s→BlkOk u x→j2c x→j2a s.r x.r=(r2,e2)→Calls Tryz.prog 36 #[j29 s,j1O x] u fun e w'=>(∃q:TipM,e= .returned (.tuple #[j29 q, .int .i64 (e2:Int)])∧IsTip r2 q w'∧(e2=0→x39 r2 q u.heap.size w'))∧Below u.heap.size u w'):=fun u s x r2 e2 hu h1 h2 h3 h4 h5=>by
  have h:=j8z s x u h1 h2 h3 h4 (ht.below (EnvX.bel hu))
  rw[h5]at h
  exact h
 have HLT0:Hid (j0M t.b.h):=(hk w w N0 ⟨Below.refl _ _,fun g' o hm=>(hN0 (g',o) hm).2⟩ (fun y hy=>hy)).2.b.h.len
 have E00:EnvX w w N0:=⟨Below.refl _ _,fun g' o hm=>(hN0 (g',o) hm).2⟩
 have hlt0: ∀y∈N0,y.1<w.heap.size:=fun y hy=>Array.getElem?_eq_some_iff.1 (hN0 y hy).2|>.1
 have E1:Hid (EnvX w ((w.alloc (.cells (j0j t) 41)).alloc (.cells (j0j noTipM) 41)) ((w.heap.size,oc (j0j t) 41)::(w.heap.size+1,oc (j0j noTipM) 41)::N0)):=EnvX.sub (E00.two _ _) (fun y hy=>by
    rcases List.mem_cons.1 hy with h|hy
    · rw[h];exact mT mH
    · rcases List.mem_cons.1 hy with h|hy
      · rw[h];exact mH
      · exact mT (mT hy))
 have HS0:Hid ((j0q ((b0::m.r).take (0+1))).2=0∧KeptA N0 (IsTip (j0q ((b0::m.r).take (0+1))).1 t)∧(∀y∈N0,y.1≠w.heap.size∧y.1≠w.heap.size+1∧ ∀x∈BS,y.1≠x.1)):=⟨h0,hk,fun y hy=>⟨by have:=hlt0 y hy;omega,by have:=hlt0 y hy;omega,(hN0 y hy).1⟩⟩
 clear h0 hk hN0 hg hm mm ht E00 hlt0
 unfold j29 j4e
 go_enter func40,ntmps40
 go_wp2_with fail
 refine wp_scope_straight ?_
 go_upto_region 1 with (fail)
 rw[←j2I]
 generalize (w.alloc (.cells (j0j t) 41)).alloc (.cells (j0j noTipM) 41)=W at *
 refine rgQ [0] [] E1 rfl fun hw=>?_
 refine qo rfl hw ?_
 refine enP fun u3 EX2=>?_
 go_wp2_with fail
 refine wp_label ?_
 go_upto_region 2 with (fail)
 refine rgQ [0,1,2] [] EX2 rfl fun hw=>?_
 refine qo rfl hw ?_
 refine qv rfl (fun u hu=>j0l underlying22 HN63.out u rfl) hw ?_
 refine qo rfl hw ?_
 refine enP fun u6 EX5=>?_
 have HST:Hid (∃s N,(j0q ((b0::m.r).take (0+1))).2=0∧KeptA N (IsTip (j0q ((b0::m.r).take (0+1))).1 s)∧j0M s.b.h∧(∀y∈N,y.1≠w.heap.size∧y.1≠w.heap.size+1∧ ∀x∈BS,y.1≠x.1)∧EnvX w u6 (((w.heap.size,oc (j0j s) 41)::((w.heap.size+1,oc (j0j noTipM) 41)::N)))):=⟨t,N0,HS0.out.1,HS0.out.2.1,HLT0.out,HS0.out.2.2,EX5.out⟩
 clear EX5 HS0 HLT0 E1
 go_upto_region 3 with (fail)
 go_loopw [6,13] (fun fv iv u=> ∃k:Nat,k≤m.n∧fv= .int .i64 0∧iv= .int .i64 (k:Int)∧Hid (∃s N,(j0q ((b0::m.r).take (k+1))).2=0∧KeptA N (IsTip (j0q ((b0::m.r).take (k+1))).1 s)∧j0M s.b.h∧(∀y∈N,y.1≠w.heap.size∧y.1≠w.heap.size+1∧ ∀x∈BS,y.1≠x.1)∧EnvX w u (((w.heap.size,oc (j0j s) 41)::((w.heap.size+1,oc (j0j noTipM) 41)::N))))) (fun _ iv _=>m.n- (intOf iv).toNat)
 case atStart=>exact⟨0,by omega,rfl,rfl,HST⟩
 case round =>
  obtain⟨k,hk,rfl,rfl,hinv⟩:=hrel
  obtain⟨s,N,hs0,hsk,hsl,hsn,hE⟩:=hinv.out
  have EK:=hD hE
  have HS0:=hD hs0
  have HSK:=hD hsk
  have HLS:Hid (j0M s.b.h):=hsl
  have HSN:=hD hsn
  clear hinv HST hE hs0 hsk hsl hsn
  by_cases hlt:k<m.n
  · have C2 :Hid (decide ((k:Int)<(m.n:Int))=true):=decide_eq_true (by omega)
    have HI:=hD hlt
    have hil:k<m.l.length:=by rw[HLL.out];exact hlt
    obtain⟨ad,hA,-,hld⟩:=HM.out.m.loads hil
    have HAD:=hD hA
    have HLD:Hid (∀u,EnvX w u []→(loadVar 37 (ad.add (k*137))).run Tryz.prog u= .ok (j1O (m.l.getD k noBlkM)) u):=fun u hu=>(hld u hu).1
    have HTX:=hD (HM.out.m.get hil)
    have hat:atB (b0::m.r) (k+1)=(m.l.getD k noBlkM).r:=by show (m.r).getD k j4f=_;exact j5O hil
    have HMX:Hid (j2c (m.l.getD k noBlkM)):=by
      show j2c _
      rw[j2D,←hat]
      exact HMM.out.at (by rw[HRL.out];omega)
    obtain⟨x,hx⟩: ∃x,m.l.getD k noBlkM=x:=⟨_,rfl⟩
    rw[hx]at HLD HTX HMX hat
    have HKx:Hid (j0M x.h):=HTX.out.h.len
    obtain⟨rk,hrk⟩: ∃rk,(j0q ((b0::m.r).take (k+1))).1=rk:=⟨_,rfl⟩
    rw[hrk]at HSK
    obtain⟨r2,e2,hp⟩: ∃r2 e2,j2a rk x.r=(r2,e2):=⟨_,_,rfl⟩
    have hck:j0q ((b0::m.r).take (k+1+1))=if e2=0 then (r2,e2)else (j27,e2):=by
      rw[j8D (by omega) (by rw[HRL.out];omega),hat]
      unfold j4d
      rw[if_pos HS0.out,hrk,hp]
    have HCK:=hD hck
    have HMS:Hid (j3f s):=j38 (l:=(b0::m.r).take (k+1)) (HMM.out.take _) (by rw[hrk];exact HSK.out w _ _ EK.out (fun y hy=>mT (mT hy)))
    have HSR:Hid (s.r=rk):=(HSK.out w _ _ EK.out (fun y hy=>mT (mT hy))).1
    have HPC:Hid (∀u,EnvX w u []→TipOk u s→Calls Tryz.prog 36 #[j29 s,j1O x] u fun e w'=>(∃q:TipM,e= .returned (.tuple #[j29 q, .int .i64 (e2:Int)])∧IsTip r2 q w'∧(e2=0→x39 r2 q u.heap.size w'))∧Below u.heap.size u w'):=fun u hu hs=>HPS.out u s x r2 e2 hu hs HMS.out (HTX.out.up (EnvX.bel hu)) HMX.out (by rw[HSR.out];exact hp)
    clear hld hil hlt hx hat hrk hp hck hA
    go_upto_region 3 with (fail)
    refine rgQ [0] [] EK rfl fun hw=>?_
    refine qv rfl (fun u hu=>j0o u C2.out rfl rfl) hw ?_
    refine enP fun u23 EX22=>?_
    go_upto_region 4 with (fail)
    refine rgQ [0,1] [2,3] EX22 rfl fun hw=>?_
    refine qv (v:= .pointer (some (ad.add (k*137)))) rfl (fun u hu=>by rw[HAD.out];exact j0h (i:=k) underlying22 aggBlk.size HI.out u rfl rfl) hw ?_
    refine qv rfl (fun u hu=>j0a u (HLD.out u (nl hu)) rfl) hw ?_
    refine j0b<|qn rfl (j4R _) fun g8 HGg8 he25=>?_
    change j1E _ _ _ _ _ _ ((g8,oc (j0L noBlkM) 37)::((w.heap.size,oc (j0j s) 41)::((w.heap.size+1,oc (j0j noTipM) 41)::N)))
    refine(sh rfl HGg8 (j1J _ (j0O HKx.out)) (j1D HKx.out) (j15 _) ?_)
    refine fun _=>enL fun u28 EX27=>?_
    go_upto_region 5 with (fail)
    refine rgQ [0,1] [2,3,4,5,6,7,8] EX27 rfl fun hw=>?_
    refine ql rfl (mT mH) HLS.out hw ?_
    refine ql rfl mH HKx.out hw ?_
    refine j0b<|(j0X (gd:=none) (R:=fun xv M'=> ∃u2 N2 Nc,xv= .tuple #[.agg (j0j u2), .int .i64 (e2:Int)]∧M'=N2++(Nc++((g8,oc (j0L x) 37)::((w.heap.size,oc (j0j s) 41)::((w.heap.size+1,oc (j0j noTipM) 41)::N))))∧x4j ((g8,oc (j0L x) 37)::((w.heap.size,oc (j0j s) 41)::((w.heap.size+1,oc (j0j noTipM) 41)::N))) r2 e2 u2 N2 Nc∧ ∀y∈N2,w.heap.size≤y.1) rfl rfl rfl rfl (fun u hu=>j0D (fid:=36) (xs:= #[.tmp 18, .tmp 19]) (args:= #[j29 s,j1O x]) rfl func36 rfl rfl u (q8p (HPC.out u (nl hu) (HSK.out w u _ hu (fun y MEM=>(mT (mT (mT MEM))))).2) hu)) ?_)
    rintro xv_ M'_ ⟨u2,N2,Nc,rfl,rfl,hpr,hpn⟩ he30;intro K' hK';go_big_quiet_op;go_big_quiet_on
    have HPR:=hD hpr
    have HN2:=hD hpn
    have HK2:Hid (j0M u2.b.h):=by obtain⟨v,hv⟩:=HPR.out.1;exact hv.2.b.h.len
    clear hpr hpn
    refine phE [3,4,5] [6,7,8] he30 fun hw=>?_
    refine qw 3 hw ?_
    refine j0b<|qn rfl (j2d _) fun g9 HGg9 he32=>?_
    change j1E _ _ _ _ _ _ ((g9,oc (j0j noTipM) 41)::(N2++(Nc++((g8,oc (j0L x) 37)::((w.heap.size,oc (j0j s) 41)::((w.heap.size+1,oc (j0j noTipM) 41)::N))))))
    refine(sh rfl HGg9 (j0K _ (j0m HK2.out)) (j0V HK2.out) (j0R _) ?_)
    intro he33
    refine phE [8] [] he33 fun hw=>?_
    refine qo rfl hw ?_
    refine enP fun u36 EX35=>?_
    go_upto_region 6 with (fail)
    refine rgQ [0] [] EX35 rfl fun hw=>?_
    refine qo rfl hw ?_
    refine enP fun u39 EX38=>?_
    cases e2 with
    | succ e2=>
      have D8:Hid (decide (((e2+1:Nat):Int)=0)=false):=decide_eq_false (by omega)
      have HF:Hid (j0q (b0::m.r)=(j27,e2+1)):=by
        show _=_
        have hc:=HCK.out
        rw[if_neg (Nat.succ_ne_zero e2)]at hc
        rw[j67 (l:=(b0::m.r)) (k:=k+1+1) (by omega) (by rw[HRL.out];have:=HI.out;omega) (by rw[hc];exact Nat.succ_ne_zero e2),hc]
      go_upto_region 8 with (fail)
      refine rgQ [0,1] [] EX38 rfl fun hw=>?_
      refine qv rfl (fun u hu=>j4Z u D8.out rfl rfl) hw ?_
      refine qo rfl hw ?_
      refine enP fun u42 EX41=>?_
      have E7:Hid (EnvX w u42 [(w.heap.size,oc (j0j s) 41),(w.heap.size+1,oc (j0j noTipM) 41)]):=EnvX.sub EX41.out (fun y hy=>by
        rcases List.mem_cons.1 hy with h|hy
        · rw[h];exact(mT (mR (mR (mT mH))))
        · cases mS.1 hy;exact(mT (mR (mR (mT (mT mH))))))
      clear EX41
      go_upto_region 7 with (fail)
      refine rgQ [0,1] [2,3] E7 rfl fun hw=>?_
      refine qv (v:= .agg (j0j noTipM)) rfl (fun u hu=>j0p u j3Z) hw ?_
      refine qo rfl hw ?_
      refine j0b<|(j0z rfl (w.heap.size) (j0j noTipM) rfl rfl (Nat.le_refl _) 41 ((j0j s)) mH (j0K _ (j0m (t:=noTipM) j1k)) ((j0m HLS.out).trans (j0m (t:=noTipM) j1k).symm) (j0R _) [(w.heap.size,oc (j0j noTipM) 41),(w.heap.size+1,oc (j0j noTipM) 41)] (mA ⟨.inl rfl,fun y hy=> .inr (by cases mS.1 hy;exact⟨mT mH,HNE.out.2⟩)⟩) ?_)
      intro he84
      refine phE [3] [] he84 fun hw=>?_
      refine qo rfl hw ?_
      refine enP fun u87 EX86=>?_
      go_upto_region 11 with (fail)
      refine rgQ [0,1] [2,3] EX86 rfl fun hw=>?_
      refine ql rfl mH (show j0M noTipM.b.h from j1k) hw ?_
      refine qo rfl hw ?_
      refine j0b<|(j0z rfl (w.heap.size+1) (j0j noTipM) rfl rfl HLE.out 41 ((j0j noTipM)) (mT mH) (j0K _ (j0m (show j0M noTipM.b.h from j1k))) ((j0m (t:=noTipM) j1k).trans (j0m (show j0M noTipM.b.h from j1k)).symm) (j0R _) [(w.heap.size+1,oc (j0j noTipM) 41)] (mA ⟨.inl rfl,fun y hy=>by cases hy⟩) ?_)
      intro he89
      refine phE [3] [] he89 fun hw=>?_
      refine qo rfl hw ?_
      refine enP fun u92 EX91=>?_
      have Q0:=hD (EnvX.box EX91.out _ _ mH)
      have HBEL:=hD EX91.out.bel
      clear EX91
      go_wp2_with (fail)
      try rw[Exit.noGoto_ret]
      go_wp2_with ((with_reducible refine bodyPost_ret (v:= .tuple #[.agg (j0j noTipM), .int .i64 ((e2+1:Nat):Int)]) ?_ ?_ ?_);(exact j0v (p:=4) (q:=5) (ty:=41) results40 _ _ (w.heap.size+1) 41 (j0j noTipM) (0,0) _ rfl _ rfl Q0.out underlying41 rfl (j0K _ (j0m (show j0M noTipM.b.h from j1k))));(rfl))
      first|exact⟨⟨noTipM,[],by rw[HF.out],by rw[HF.out];exact fun _ _ _ _ _=>⟨rfl,TipOk.no _⟩,(fun y hy=>by cases hy)⟩,HBEL.out⟩|exact⟨⟨noTipM,[],by rw[HF.out]<;>first|rfl|exact⟨rfl,rfl⟩,by rw[HF.out];exact fun _ _ _ _ _=>⟨rfl,TipOk.no _⟩,(fun a b hy=>by cases hy)⟩,HBEL.out⟩
    | zero=>
      have D8:Hid (decide (((0:Nat):Int)=0)=true):=decide_eq_true (by omega)
      go_upto_region 8 with (fail)
      refine rgQ [0,1] [] EX38 rfl fun hw=>?_
      refine qv rfl (fun u hu=>j4Z u D8.out rfl rfl) hw ?_
      refine qo rfl hw ?_
      refine enP fun u42 EX41=>?_
      have HQ:=hD (HPR.out.2 rfl)
      have hEA:EnvX w u42 (BS++((g9,oc (j0j u2) 41)::(N2++(Nc++((g8,oc (j0L x) 37)::((w.heap.size,oc (j0j s) 41)::((w.heap.size+1,oc (j0j noTipM) 41)::N))))))):=x1M EX41.out (fun y hy=>(HBS.out y hy).1)
      obtain⟨N9,hb9,hn9⟩:=CoB.apartB (by obtain⟨v,hv⟩:=HPR.out.1;exact hv.2.o4) hEA ((w.heap.size,oc (j0j s) 41)::(w.heap.size+1,oc (j0j noTipM) 41)::BS) HQ.out.2.1 (fun y MEM=>mR (mT (mR (mL MEM)))) (fun y hy=>by
        rcases List.mem_cons.1 hy with h|hy
        · rw[h];exact⟨mR (mT (mR (mR (mT mH)))),_,rfl⟩
        · rcases List.mem_cons.1 hy with h|hy
          · rw[h];exact⟨mR (mT (mR (mR (mT (mT mH))))),_,rfl⟩
          · exact⟨mL hy,(HBS.out y hy).2⟩)
      have HQK:Hid (KeptA (N2++N9) (IsTip r2 u2)):=x17 HPR.out.1 HQ.out.1 hb9
      have HNW:Hid (∀y∈N2,w.heap.size≤y.1):=HN2.out
      have HQN:Hid (∀y∈N2++N9,y.1≠w.heap.size∧y.1≠w.heap.size+1∧ ∀x∈BS,y.1≠x.1):=fun y hy=>by
        rcases List.mem_append.1 hy with h|h
        · exact⟨fun e=>HQ.out.2.2 y h _ (mT mH) e.symm,fun e=>HQ.out.2.2 y h _ (mT (mT mH)) e.symm,fun x hx e=>by have h1:=HNW.out y h;have h2:=HBL.out x hx;omega⟩
        · exact⟨(hn9 y h).2 _ mH,(hn9 y h).2 _ (mT mH),fun x hx=>(hn9 y h).2 x (mT (mT hx))⟩
      have HQM:Hid (∀y∈N2++N9,y∈((g9,oc (j0j u2) 41)::(N2++(Nc++((g8,oc (j0L x) 37)::((w.heap.size,oc (j0j s) 41)::((w.heap.size+1,oc (j0j noTipM) 41)::N))))))):=fun y hy=>by
        rcases List.mem_append.1 hy with MEM|h
        · exact(mT (mL MEM))
        · have MEM:=(hn9 y h).1
          exact(mT (mR (mL MEM)))
      obtain⟨N3,hN3⟩: ∃N3,N2++N9=N3:=⟨_,rfl⟩
      rw[hN3]at HQK HQN HQM
      have E9:Hid (EnvX w u42 ((g9,oc (j0j u2) 41)::((w.heap.size,oc (j0j s) 41)::((w.heap.size+1,oc (j0j noTipM) 41)::N3)))):=EnvX.sub EX41.out (fun y hy=>by
        rcases List.mem_cons.1 hy with h|hy
        · rw[h];exact mH
        · rcases List.mem_cons.1 hy with h|hy
          · rw[h];exact(mT (mR (mR (mT mH))))
          · rcases List.mem_cons.1 hy with h|hy
            · rw[h];exact(mT (mR (mR (mT (mT mH)))))
            · exact HQM.out y hy)
      clear hb9 hn9 hN3 HQM HQ HPR EX41 hEA HN2 HNW
      have HRS:Hid (∀y∈((w.heap.size+1,oc (j0j noTipM) 41)::N3),y∈((g9,oc (j0j u2) 41)::((w.heap.size,oc (j0j s) 41)::((w.heap.size+1,oc (j0j noTipM) 41)::N3)))∧y.1≠w.heap.size):=q6W (mT (mT mH)) HNE.out.2 (fun y MEM=>⟨(mT (mT (mT MEM))),(HQN.out y MEM).1⟩)
      go_upto_region 9 with (fail)
      refine rgQ [0] [1] E9 rfl fun hw=>?_
      refine ql rfl mH HK2.out hw ?_
      refine j0b<|(j0z rfl (w.heap.size) (j0j u2) rfl rfl (Nat.le_refl _) 41 ((j0j s)) (mT mH) (j0K _ (j0m HK2.out)) ((j0m HLS.out).trans (j0m HK2.out).symm) (j0R _) ((w.heap.size,oc (j0j u2) 41)::((w.heap.size+1,oc (j0j noTipM) 41)::N3)) (mA ⟨.inl rfl,fun y hy=> .inr (HRS.out y hy)⟩) ?_)
      refine fun _=>enL fun u86 EX85=>?_
      have HNX:Hid (∃s N,(j0q ((b0::m.r).take (k+1+1))).2=0∧KeptA N (IsTip (j0q ((b0::m.r).take (k+1+1))).1 s)∧j0M s.b.h∧(∀y∈N,y.1≠w.heap.size∧y.1≠w.heap.size+1∧ ∀x∈BS,y.1≠x.1)∧EnvX w u86 (((w.heap.size,oc (j0j s) 41)::((w.heap.size+1,oc (j0j noTipM) 41)::N)))):=⟨u2,N3,by rw[HCK.out,if_pos rfl],by rw[HCK.out,if_pos rfl];exact HQK.out,HK2.out,HQN.out,EX85.out⟩
      have hii:=HI.out
      have hn:=HN63.out
      go_wp2
      go_roundw
      case rel=>exact⟨k+1,by omega,rfl,by go_num,HNX⟩
      case measure=>simp[intOf];omega
  · obtain rfl:k=m.n:=by omega
    have C2:Hid (decide ((m.n:Int)<(m.n:Int))=false):=decide_eq_false (by omega)
    have hw:(b0::m.r).take (m.n+1)=(b0::m.r):=tL (by rw[HRL.out];exact Nat.le_refl _)
    have HF:Hid (j0q (b0::m.r)=((j0q (b0::m.r)).1,0)):=by
      have h:=HS0.out
      rw[hw]at h
      show _=_
      rw[←h]
    rw[hw]at HSK
    clear hw
    go_upto_region 3 with (fail)
    refine rgQ [0] [] EK rfl fun hw=>?_
    refine qv rfl (fun u hu=>j0o u C2.out rfl rfl) hw ?_
    refine enP fun u303 EX302=>?_
    go_upto_region 11 with (fail)
    refine rgQ [0,1] [2,3] EX302 rfl fun hw=>?_
    refine ql rfl mH HLS.out hw ?_
    refine qo rfl hw ?_
    refine j0b<|(j0z rfl (w.heap.size+1) (j0j s) rfl rfl HLE.out 41 ((j0j noTipM)) (mT mH) (j0K _ (j0m HLS.out)) ((j0m (t:=noTipM) j1k).trans (j0m HLS.out).symm) (j0R _) ((w.heap.size+1,oc (j0j s) 41)::N) (mA ⟨.inl rfl,fun y hy=> .inr ⟨(mT (mT hy)),(HSN.out y hy).2.1⟩⟩) ?_)
    intro he305
    refine phE [3] [] he305 fun hw=>?_
    refine qo rfl hw ?_
    refine enP fun u308 EX307=>?_
    have HFB:Hid (∀y∈N,(∀x∈BS,y.1≠x.1)∧u308.heap[y.1]?=some y.2):=fun y hy=>⟨(HSN.out y hy).2.2,EnvX.box EX307.out _ _ (mT hy)⟩
    have Q0:=hD (EnvX.box EX307.out _ _ mH)
    have HBEL:=hD EX307.out.bel
    clear EX307
    go_wp2_with (fail)
    try rw[Exit.noGoto_ret]
    go_wp2_with ((with_reducible refine bodyPost_ret (v:= .tuple #[.agg (j0j s), .int .i64 0]) ?_ ?_ ?_);(exact j0v (p:=4) (q:=5) (ty:=41) results40 _ _ (w.heap.size+1) 41 (j0j s) (0,0) _ rfl _ rfl Q0.out underlying41 rfl (j0K _ (j0m HLS.out)));(rfl))
    first|exact⟨⟨s,N,by rw[HF.out]<;>rfl,by rw[HF.out];exact HSK.out,HFB.out⟩,HBEL.out⟩|exact⟨⟨s,N,by rw[HF.out]<;>first|rfl|exact⟨rfl,rfl⟩,by rw[HF.out];exact HSK.out,fun a b hy=>HFB.out (a,b) hy⟩,HBEL.out⟩
end Go.Proofs.YtojmeodoenkapaaGreatDoor
