/- Part of a proof. -/
import Derived.Test.YtojmeodoenkapaaGreatDoorYj
open Go.Proofs.Tryz
namespace Go.Proofs.YtojmeodoenkapaaGreatDoor
set_option maxRecDepth 20000
set_option maxHeartbeats 8000000
set_option linter.unusedVariables false
set_option linter.unusedSimpArgs false
open Go.RowKit
theorem pushAll_turn{f:FuncId}{args:Array Value}{u w0:World}{M:Boxes}{r:TipR}{y:Value}{g:Nat→Prop}(h:Calls Tryz.prog f args u fun e w'=>(∃(t:TipM)(N:Boxes),e= .returned (.tuple #[tipV t,y])∧KeptA N (IsTip r t)∧ ∀z∈N,g z.1∧w'.heap[z.1]?=some z.2)∧Below u.heap.size u w')(hu:EnvX w0 u M):
  Calls Tryz.prog f args u fun e w'=> ∃x M',e= .returned x∧EnvX w0 w' M'∧ ∃t N,x= .tuple #[.agg (tipA t),y]∧M'=N++M∧KeptA N (IsTip r t)∧(∃v,IsTip r t v)∧ ∀z∈N,g z.1:=
 h.mono fun e w'⟨⟨t,N,he,hk,hN⟩,hb⟩=>by
  have hE:=EnvX.below hu hb
  have h2:EnvX w0 w' (N++M):=⟨hE.bel,fun g o hm=>by
   rcases List.mem_append.1 hm with h|h
   · exact(hN (g,o) h).2
   · exact hE.box g o h⟩
  exact⟨_,_,he,h2,t,N,rfl,rfl,hk,⟨w',hk w0 w' _ h2 (fun y hy=>mL hy)⟩,fun z hz=>(hN z hz).1⟩
theorem start_no{b:BlkR}(h:isC b.h.bits=false∨(tipK b.h.bits).b≠b):startC b=(noTip,12):=by
 unfold startC
 refine if_neg fun k=>?_
 rcases h with h|h
 · rw[k.1]at h;cases h
 · exact h k.2
theorem check_other{l:List BlkR}{b:BlkR}(h1:1≤l.length)(hb:atB l 0=b)(h:isC b.h.bits=false∨(tipK b.h.bits).b≠b):checkC l=(noTip,12):=by
 have e:checkC (l.take 1)=(noTip,12):=by rw[check_one h1,hb,start_no h]
 rw[check_bad (Nat.le_refl 1) h1 (by rw[e];decide),e]
theorem blks_row{q:List BlkM}{n c:Nat}{A:Option Addr}{Nx N:Boxes}(hq:q.length=n)(hF:FreshR 37 137 n (q.map blkC).flatten (.slice A n c) Nx)(hb:n≤c∧c≤maxLen)(hk: ∀t∈q,KeptA N (fun u=>BlkOk u t)):KeptA (Nx++N) (fun u=>RowOk u ⟨q,A,n,c⟩):=fun w0 u M hu hM=>by
 have he: ∀t∈q,BlkOk u t:=fun t ht=>hk t ht w0 u M hu (fun y hy=>hM y (mR hy))
 have hR:isRows 137 (q.map blkC):=fun y hy=>by
  obtain⟨t,ht,rfl⟩:=List.mem_map.1 hy
  exact blkC_len (he t ht).h.len
 exact⟨hq,hb,⟨kept_cells hF (by rw[hR.flat_len,lM,hq]) w0 u M hu (fun y hy=>hM y (mL hy)),he⟩⟩
theorem blks_flat{q:List BlkM}{n:Nat}(hq:q.length=n){u:World}(he: ∀t∈q,BlkOk u t):(q.map blkC).flatten.length=n*137:=by
 have hR:isRows 137 (q.map blkC):=fun y hy=>by
  obtain⟨t,ht,rfl⟩:=List.mem_map.1 hy
  exact blkC_len (he t ht).h.len
 rw[hR.flat_len,lM,hq]
theorem vccheck_none(BS:Boxes)(m:RowM)(w:World)(hg: ∀y∈BS,w.heap[y.1]?=some y.2∧ ∃z,y.2=oc (tipA z) 41)(hm:RowOk w m)(mm:midRowR m.r)(ht:Tables w)(h0:m.n=0):
  Calls Tryz.prog 13 #[rowV m] w fun e w'=>(∃(t:TipM)(N:Boxes),e= .returned (.tuple #[tipV t, .int .i64 ((checkC m.r).2:Int)])∧KeptA N (IsTip (checkC m.r).1 t)∧ ∀y∈N,(∀x∈BS,y.1≠x.1)∧w'.heap[y.1]?=some y.2)∧Below w.heap.size w w':=by
 have HN63:Hid (m.n<9223372036854775808):=hm.n63
 have HNL:Hid (lenH noTipM.b.h):=len_no
 have E1:Hid (EnvX w (w.alloc (.cells (tipA noTipM) 41)) [(w.heap.size,oc (tipA noTipM) 41)]):=(EnvX.start w).new _
 have HF:Hid (checkC m.r=(noTip,9)):=by
  show _=_
  rw[List.eq_nil_of_length_eq_zero (show m.r.length=0 by rw[m.r_len,hm.l,h0])]
  rfl
 have D2:Hid (decide ((m.n:Int)=0)=true):=decide_eq_true (by omega)
 clear hm mm ht h0 hg
 unfold rowV
 go_enter func13,ntmps13
 go_upto_region 1 with (fail)
 rw[←zero_tipA]
 generalize w.alloc (.cells (tipA noTipM) 41)=W at *
 refine rgQ [0,1,2] [] E1 rfl fun hw=>?_
 refine qo rfl hw ?_
 refine qv rfl (fun u hu=>len_op underlying22 HN63.out u rfl) hw ?_
 refine qv rfl (fun u hu=>eqlI_op u D2.out rfl rfl) hw ?_
 refine enP fun u3 EX2=>?_
 go_upto_region 2 with (fail)
 refine rgQ [0] [1,2] EX2 rfl fun hw=>?_
 refine qv (v:= .agg (tipA noTipM)) rfl (fun u hu=>buildA_op u built_tip0) hw ?_
 refine wpG_nil<|(so (cs:=tipA noTipM) rfl (Nat.le_refl _) mH (infoTip _ (tipA_size HNL.out)) rfl (tipA_one _) ?_)
 intro he35
 refine phE [2] [] he35 fun hw=>?_
 refine qo rfl hw ?_
 refine enP fun u38 EX37=>?_
 have Q0:=hD (EnvX.box EX37.out _ _ mH)
 have HBEL:=hD EX37.out.bel
 clear EX37
 go_wp2_with ((with_reducible refine bodyPost_ret (v:= .tuple #[.agg (tipA noTipM), .int .i64 9]) ?_ ?_ ?_);(exact results_row_slot (p:=2) (q:=3) (ty:=41) results13 _ _ (w.heap.size) 41 (tipA noTipM) (0,0) _ rfl _ rfl Q0.out underlying41 rfl (infoTip _ (tipA_size HNL.out)));(rfl))
 first|exact⟨⟨noTipM,[],by rw[HF.out]<;>rfl,by rw[HF.out];exact fun _ _ _ _ _=>⟨rfl,TipOk.no _⟩,(fun y hy=>by cases hy)⟩,HBEL.out⟩|exact⟨⟨noTipM,[],by rw[HF.out]<;>first|rfl|exact⟨rfl,rfl⟩,by rw[HF.out];exact fun _ _ _ _ _=>⟨rfl,TipOk.no _⟩,(fun a b hy=>by cases hy)⟩,HBEL.out⟩|exact⟨⟨noTipM,by rw[HF.out]<;>first|rfl|exact⟨rfl,rfl⟩,[],by rw[HF.out];exact fun _ _ _ _ _=>⟨rfl,TipOk.no _⟩,(fun a b hy=>by cases hy)⟩,HBEL.out⟩
theorem vccheck_some(BS:Boxes)(m:RowM)(w:World)(hg: ∀y∈BS,w.heap[y.1]?=some y.2∧ ∃z,y.2=oc (tipA z) 41)(hm:RowOk w m)(mm:midRowR m.r)(ht:Tables w)(h0:1≤m.n):
  Calls Tryz.prog 13 #[rowV m] w fun e w'=>(∃(t:TipM)(N:Boxes),e= .returned (.tuple #[tipV t, .int .i64 ((checkC m.r).2:Int)])∧KeptA N (IsTip (checkC m.r).1 t)∧ ∀y∈N,(∀x∈BS,y.1≠x.1)∧w'.heap[y.1]?=some y.2)∧Below w.heap.size w w':=by
 have HN63:Hid (m.n<9223372036854775808):=hm.n63
 have HNL:Hid (lenH noTipM.b.h):=len_no
 have E1:Hid (EnvX w (w.alloc (.cells (tipA noTipM) 41)) [(w.heap.size,oc (tipA noTipM) 41)]):=(EnvX.start w).new _
 have HM:=hD hm
 have H1N:Hid (1≤m.n):=h0
 have HI:Hid (0<m.n):=h0
 have hl1:1≤m.l.length:=by rw[hm.l];exact h0
 have hr1:1≤m.r.length:=by rw[m.r_len];exact hl1
 obtain⟨x,hx⟩: ∃x,m.l.getD 0 noBlkM=x:=⟨_,rfl⟩
 have hat:atB m.r 0=x.r:=by rw[←hx];exact rsB_at hl1
 have hrow:=row_head hl1
 rw[hx]at hrow
 obtain⟨ad,hA,hca⟩:=hm.m.cellsAt hl1
 rw[hx]at hca
 have hok:BlkOk w x:=by rw[←hx];exact hm.m.get hl1
 have hmx:midBlk x:=by rw[midBlk_iff,←hat];exact mm.at hr1
 have HKX:Hid (lenH x.h):=hok.h.len
 have HAD:=hD hA
 have HLD:Hid (∀u,EnvX w u []→(loadVar 37 (ad.add (0*137))).run Tryz.prog u= .ok (blkV x) u):=fun u hu=>(loads_blk HKX.out (hca u hu)).1
 have HBI:Hid (∀u,EnvX w u []→(loadVar 27 (((ad.add (0*137)).add 0).add 133)).run Tryz.prog u= .ok (.int .u32 (x.h.bits:Int)) u):=fun u hu=>by
  rw[addr0]
  exact(loads_hd HKX.out (fun j v hv=>hca u hu j v ((blk_cells HKX.out).1 j v hv))).2.2.2.2.2.2.2.1
 have HFI:Hid (∀u,EnvX w u []→Hands 38 #[.int .u32 (x.h.bits:Int)] u (RTipE (firstK x.h.bits).1 (firstK x.h.bits).2)):=fun u hu=>vbfirst_sep x.h.bits u hok.h.2.2.2.2.2.2.1 (ht.below (EnvX.bel hu))
 have D2:Hid (decide ((m.n:Int)=0)=false):=decide_eq_false (by omega)
 obtain⟨bc,hbc⟩: ∃bc,isC x.h.bits=bc:=⟨_,rfl⟩
 have HFE:Hid (firstK x.h.bits=(if bc then (tipK x.h.bits,true)else (noTip,false))):=by show _=_;unfold firstK;rw[hbc]
 cases bc with
 |false=>
  have HF:Hid (checkC m.r=(noTip,12)):=check_other hr1 hat (.inl hbc)
  clear hm mm ht h0 hg hl1 hr1 hx hat hrow hA hca hok hmx hbc
  rw[HFE.out]at HFI
  unfold rowV
  go_enter func13,ntmps13
  go_upto_region 1 with (fail)
  rw[←zero_tipA]
  generalize w.alloc (.cells (tipA noTipM) 41)=W at *
  refine rgQ [0,1,2] [] E1 rfl fun hw=>?_
  refine qo rfl hw ?_
  refine qv rfl (fun u hu=>len_op underlying22 HN63.out u rfl) hw ?_
  refine qv rfl (fun u hu=>eqlI_op u D2.out rfl rfl) hw ?_
  refine enP fun u3 EX2=>?_
  go_upto_region 3 with (fail)
  refine rgQ [0,1,2,3,4] [5,6,7,8,9,10,11] EX2 rfl fun hw=>?_
  refine qo rfl hw ?_
  refine qv (v:= .pointer (some (ad.add (0*137)))) rfl (fun u hu=>by rw[HAD.out];exact idxSl_op (i:=0) underlying22 aggBlk.size HI.out u rfl rfl) hw ?_
  refine qv (v:= .pointer (some ((ad.add (0*137)).add 0))) rfl (fun u hu=>fieldBlk_op (k:=0) (off:=0) (ad:=(ad.add (0*137))) rfl u rfl) hw ?_
  refine qv (v:= .pointer (some (((ad.add (0*137)).add 0).add 133))) rfl (fun u hu=>fieldHd_op (k:=6) (off:=133) (ad:=(ad.add (0*137)).add 0) rfl u rfl) hw ?_
  refine qv rfl (fun u hu=>load_any_op u (HBI.out u (nl hu)) rfl) hw ?_
  refine wpG_nil<|(hOp_turn (gd:=none) (R:=fun xv M'=> ∃Nq,RTipE (noTip) false xv Nq∧M'=Nq++[(w.heap.size,oc (tipA noTipM) 41)]∧ ∀y∈Nq,w.heap.size≤y.1∧ ∀z∈[(w.heap.size,oc (tipA noTipM) 41)],z.1≠y.1) rfl rfl rfl rfl (fun u hu=>OUpon_call (fid:=38) (xs:= #[.tmp 15]) (args:= #[.int .u32 (x.h.bits:Int)]) rfl func38 rfl rfl u (hands_turn (HFI.out u (nl hu)) hu)) ?_)
  rintro xv_ M'_ ⟨N1,hR1,rfl,hn1⟩ he5;intro K' hK';go_big_quiet_op;go_big_quiet_on
  obtain⟨t1,rfl,hk1,hv1⟩:=hR1
  have HN1:=hD hn1
  clear hn1
  have HT1:=hD hk1
  have HV1:=hD hv1
  have HK1:Hid (lenH t1.b.h):=by obtain⟨v,hv⟩:=HV1.out;exact hv.2.b.h.len
  clear hk1 hv1
  refine phE [6,7,8] [9,10,11] he5 fun hw=>?_
  refine qw 3 hw ?_
  refine wpG_nil<|qn rfl (new_tip _) fun g4 HGg4 he7=>?_
  change lexH _ _ _ _ _ _ ((g4,oc (tipA noTipM) 41)::(N1++((w.heap.size,oc (tipA noTipM) 41)::[])))
  refine(sh rfl HGg4 (infoTip _ (tipA_size HK1.out)) (tip_sizes HK1.out) (tipA_one _) ?_)
  intro he8
  refine phE [11] [] he8 fun hw=>?_
  refine qo rfl hw ?_
  refine enP fun u11 EX10=>?_
  go_upto_region 4 with (fail)
  refine rgK [0,1,2,3,4,5,6,7,8,9,10] 0 EX10 rfl fun hw=>?_
  refine qw 11 hw ?_
  refine eH fun u14 EX13=>?_
  have E9:Hid (EnvX w u14 [(w.heap.size,oc (tipA noTipM) 41)]):=EnvX.sub EX13.out (fun y hy=>by cases mS.1 hy;exact(mT (mR mH)))
  clear EX13
  go_upto_region 5 with (fail)
  refine rgQ [0] [1,2] E9 rfl fun hw=>?_
  refine qv (v:= .agg (tipA noTipM)) rfl (fun u hu=>buildA_op u built_tip0) hw ?_
  refine wpG_nil<|(so (cs:=tipA noTipM) rfl (Nat.le_refl _) mH (infoTip _ (tipA_size HNL.out)) rfl (tipA_one _) ?_)
  intro he46
  refine phE [2] [] he46 fun hw=>?_
  refine qo rfl hw ?_
  refine enP fun u49 EX48=>?_
  have Q0:=hD (EnvX.box EX48.out _ _ mH)
  have HBEL:=hD EX48.out.bel
  clear EX48
  go_wp2_with ((with_reducible refine bodyPost_ret (v:= .tuple #[.agg (tipA noTipM), .int .i64 12]) ?_ ?_ ?_);(exact results_row_slot (p:=2) (q:=3) (ty:=41) results13 _ _ (w.heap.size) 41 (tipA noTipM) (0,0) _ rfl _ rfl Q0.out underlying41 rfl (infoTip _ (tipA_size HNL.out)));(rfl))
  first|exact⟨⟨noTipM,[],by rw[HF.out]<;>rfl,by rw[HF.out];exact fun _ _ _ _ _=>⟨rfl,TipOk.no _⟩,(fun y hy=>by cases hy)⟩,HBEL.out⟩|exact⟨⟨noTipM,[],by rw[HF.out]<;>first|rfl|exact⟨rfl,rfl⟩,by rw[HF.out];exact fun _ _ _ _ _=>⟨rfl,TipOk.no _⟩,(fun a b hy=>by cases hy)⟩,HBEL.out⟩|exact⟨⟨noTipM,by rw[HF.out]<;>first|rfl|exact⟨rfl,rfl⟩,[],by rw[HF.out];exact fun _ _ _ _ _=>⟨rfl,TipOk.no _⟩,(fun a b hy=>by cases hy)⟩,HBEL.out⟩
 | true=>
  rw[HFE.out]at HFI
  have HSM:Hid (∀(u:World)(s:TipM),EnvX w u []→IsTip (tipK x.h.bits) s u→Calls Tryz.prog 39 #[blkV s.b,blkV x] u fun e w'=>e= .returned (.bool (decide ((tipK x.h.bits).b=x.r)))∧Below u.heap.size u w'):=fun u s hu hs=>by
   have h:=vbsame_any s.b x u hs.2.b ((midBlk_iff _).2 (by rw[show s.b.r=(tipK x.h.bits).b from congrArg TipR.b hs.1];exact⟨Nat.zero_le _,Nat.zero_le _,fun y hy=>by cases hy⟩)) (hok.up (EnvX.bel hu)) hmx
   rwa[show s.b.r=(tipK x.h.bits).b from congrArg TipR.b hs.1]at h
  obtain⟨bs,hbs⟩: ∃bs,decide ((tipK x.h.bits).b=x.r)=bs:=⟨_,rfl⟩
  rw[hbs]at HSM
  have HAN:Hid (bs=false→checkC m.r=(noTip,12)):=fun e=>check_other hr1 hat (.inr (by rw[e]at hbs;exact of_decide_eq_false hbs))
  have HCK:Hid (bs=true→checkC [x.r]=(tipK x.h.bits,0)):=fun e=>by
   rw[e]at hbs
   show startC x.r=_
   unfold startC
   exact if_pos ⟨hbc,of_decide_eq_true hbs⟩
  have HPA:Hid (bs=true→ ∀(u:World)(s:TipM)(N:Boxes),Below w.heap.size w u→KeptA N (IsTip (tipK x.h.bits) s)→(∀y∈N,w.heap.size≤y.1∧y.1≠w.heap.size∧u.heap[y.1]?=some y.2)→u.heap[w.heap.size]?=some (oc (tipA noTipM) 41)→Calls Tryz.prog 40 #[tipV s, .slice (cutX 137 m.A 1 m.c) (m.n- 1) (m.c- 1)] u fun e w'=>(∃(q:TipM)(N:Boxes),e= .returned (.tuple #[tipV q, .int .i64 ((checkC m.r).2:Int)])∧KeptA N (IsTip (checkC m.r).1 q)∧ ∀y∈N,(∀x∈(w.heap.size,oc (tipA noTipM) 41)::BS,y.1≠x.1)∧w'.heap[y.1]?=some y.2)∧Below u.heap.size u w'):=fun e u s N hu hk hN hg0=>by
   have hlt: ∀y∈BS,y.1<w.heap.size:=fun y hy=>(Array.getElem?_eq_some_iff.1 (hg y hy).1).1
   have hc:=HCK.out e
   have h:=vcpushAll x.r s ⟨m.l.drop 1,cutX 137 m.A 1 m.c,m.n- 1,m.c- 1⟩ ((w.heap.size,oc (tipA noTipM) 41)::BS) N u (by rw[hc]) (by rw[hc];exact hk) (fun y hy=>⟨fun x hx=>(by
    rcases List.mem_cons.1 hx with h|h
    · rw[h];exact(hN y hy).2.1
    · have:=hlt x h;have:=(hN y hy).1;omega),(hN y hy).2.2⟩) (fun y hy=>(by
    rcases List.mem_cons.1 hy with h|h
    · rw[h];exact⟨hg0,_,rfl⟩
    · exact⟨(hu.block _ (hlt y h)).trans (hg y h).1,(hg y h).2⟩)) ((HM.out.rest H1N.out).up hu) (by rw[hrow]at mm;exact mm) (ht.below hu)
   rw[hrow]
   exact h
  clear hm mm ht h0 hg hl1 hr1 hx hat hrow hA hca hok hmx hbc hbs HM
  unfold rowV
  go_enter func13,ntmps13
  go_upto_region 1 with (fail)
  rw[←zero_tipA]
  generalize w.alloc (.cells (tipA noTipM) 41)=W at *
  refine rgQ [0,1,2] [] E1 rfl fun hw=>?_
  refine qo rfl hw ?_
  refine qv rfl (fun u hu=>len_op underlying22 HN63.out u rfl) hw ?_
  refine qv rfl (fun u hu=>eqlI_op u D2.out rfl rfl) hw ?_
  refine enP fun u3 EX2=>?_
  go_upto_region 3 with (fail)
  refine rgQ [0,1,2,3,4] [5,6,7,8,9,10,11] EX2 rfl fun hw=>?_
  refine qo rfl hw ?_
  refine qv (v:= .pointer (some (ad.add (0*137)))) rfl (fun u hu=>by rw[HAD.out];exact idxSl_op (i:=0) underlying22 aggBlk.size HI.out u rfl rfl) hw ?_
  refine qv (v:= .pointer (some ((ad.add (0*137)).add 0))) rfl (fun u hu=>fieldBlk_op (k:=0) (off:=0) (ad:=(ad.add (0*137))) rfl u rfl) hw ?_
  refine qv (v:= .pointer (some (((ad.add (0*137)).add 0).add 133))) rfl (fun u hu=>fieldHd_op (k:=6) (off:=133) (ad:=(ad.add (0*137)).add 0) rfl u rfl) hw ?_
  refine qv rfl (fun u hu=>load_any_op u (HBI.out u (nl hu)) rfl) hw ?_
  refine wpG_nil<|(hOp_turn (gd:=none) (R:=fun xv M'=> ∃Nq,RTipE (tipK x.h.bits) true xv Nq∧M'=Nq++[(w.heap.size,oc (tipA noTipM) 41)]∧ ∀y∈Nq,w.heap.size≤y.1∧ ∀z∈[(w.heap.size,oc (tipA noTipM) 41)],z.1≠y.1) rfl rfl rfl rfl (fun u hu=>OUpon_call (fid:=38) (xs:= #[.tmp 15]) (args:= #[.int .u32 (x.h.bits:Int)]) rfl func38 rfl rfl u (hands_turn (HFI.out u (nl hu)) hu)) ?_)
  rintro xv_ M'_ ⟨N1,hR1,rfl,hn1⟩ he5;intro K' hK';go_big_quiet_op;go_big_quiet_on
  obtain⟨t1,rfl,hk1,hv1⟩:=hR1
  have HN1:=hD hn1
  clear hn1
  have HT1:=hD hk1
  have HV1:=hD hv1
  have HK1:Hid (lenH t1.b.h):=by obtain⟨v,hv⟩:=HV1.out;exact hv.2.b.h.len
  clear hk1 hv1
  refine phE [6,7,8] [9,10,11] he5 fun hw=>?_
  refine qw 3 hw ?_
  refine wpG_nil<|qn rfl (new_tip _) fun g4 HGg4 he7=>?_
  change lexH _ _ _ _ _ _ ((g4,oc (tipA noTipM) 41)::(N1++((w.heap.size,oc (tipA noTipM) 41)::[])))
  refine(sh rfl HGg4 (infoTip _ (tipA_size HK1.out)) (tip_sizes HK1.out) (tipA_one _) ?_)
  intro he8
  refine phE [11] [] he8 fun hw=>?_
  refine qo rfl hw ?_
  refine enP fun u11 EX10=>?_
  cases bs with
  |false=>
   have HF:Hid (checkC m.r=(noTip,12)):=HAN.out rfl
   clear HPA HAN HCK
   go_upto_region 4 with (fail)
   refine rgK [0,1,2,3,4,5,6,7,8,9,10] 0 EX10 rfl fun hw=>?_
   refine qw 4 hw ?_
   refine ql rfl mH HK1.out hw ?_
   refine qo rfl hw ?_
   refine qv (v:= .pointer (some (ad.add (0*137)))) rfl (fun u hu=>by rw[HAD.out];exact idxSl_op (i:=0) underlying22 aggBlk.size HI.out u rfl rfl) hw ?_
   refine qv rfl (fun u hu=>load_any_op u (HLD.out u (nl hu)) rfl) hw ?_
   refine qc rfl func39 (fun u hu=>HSM.out u t1 (nl hu) (HT1.out w u _ hu (fun y MEM=>(mT (mL MEM))))) hw ?_
   refine qw 2 hw ?_
   refine eH fun u14 EX13=>?_
   have E9:Hid (EnvX w u14 [(w.heap.size,oc (tipA noTipM) 41)]):=EnvX.sub EX13.out (fun y hy=>by cases mS.1 hy;exact(mT (mR mH)))
   clear EX13
   go_upto_region 5 with (fail)
   refine rgQ [0] [1,2] E9 rfl fun hw=>?_
   refine qv (v:= .agg (tipA noTipM)) rfl (fun u hu=>buildA_op u built_tip0) hw ?_
   refine wpG_nil<|(so (cs:=tipA noTipM) rfl (Nat.le_refl _) mH (infoTip _ (tipA_size HNL.out)) rfl (tipA_one _) ?_)
   intro he46
   refine phE [2] [] he46 fun hw=>?_
   refine qo rfl hw ?_
   refine enP fun u49 EX48=>?_
   have Q0:=hD (EnvX.box EX48.out _ _ mH)
   have HBEL:=hD EX48.out.bel
   clear EX48
   go_wp2_with ((with_reducible refine bodyPost_ret (v:= .tuple #[.agg (tipA noTipM), .int .i64 12]) ?_ ?_ ?_);(exact results_row_slot (p:=2) (q:=3) (ty:=41) results13 _ _ (w.heap.size) 41 (tipA noTipM) (0,0) _ rfl _ rfl Q0.out underlying41 rfl (infoTip _ (tipA_size HNL.out)));(rfl))
   first|exact⟨⟨noTipM,[],by rw[HF.out]<;>rfl,by rw[HF.out];exact fun _ _ _ _ _=>⟨rfl,TipOk.no _⟩,(fun y hy=>by cases hy)⟩,HBEL.out⟩|exact⟨⟨noTipM,[],by rw[HF.out]<;>first|rfl|exact⟨rfl,rfl⟩,by rw[HF.out];exact fun _ _ _ _ _=>⟨rfl,TipOk.no _⟩,(fun a b hy=>by cases hy)⟩,HBEL.out⟩|exact⟨⟨noTipM,by rw[HF.out]<;>first|rfl|exact⟨rfl,rfl⟩,[],by rw[HF.out];exact fun _ _ _ _ _=>⟨rfl,TipOk.no _⟩,(fun a b hy=>by cases hy)⟩,HBEL.out⟩
  |true=>
   replace HPA:=hD (HPA.out rfl)
   clear HAN HCK
   go_upto_region 4 with (fail)
   refine rgK [0,1,2,3,4,5,6,7,8,9,10] 0 EX10 rfl fun hw=>?_
   refine qw 4 hw ?_
   refine ql rfl mH HK1.out hw ?_
   refine qo rfl hw ?_
   refine qv (v:= .pointer (some (ad.add (0*137)))) rfl (fun u hu=>by rw[HAD.out];exact idxSl_op (i:=0) underlying22 aggBlk.size HI.out u rfl rfl) hw ?_
   refine qv rfl (fun u hu=>load_any_op u (HLD.out u (nl hu)) rfl) hw ?_
   refine qc rfl func39 (fun u hu=>HSM.out u t1 (nl hu) (HT1.out w u _ hu (fun y MEM=>(mT (mL MEM))))) hw ?_
   refine qw 2 hw ?_
   refine eH fun u14 EX13=>?_
   obtain⟨rc,hrc⟩: ∃rc,checkC m.r=rc:=⟨_,rfl⟩
   rw[hrc]at HPA
   have HF:=hD hrc
   clear hrc
   go_upto_region 6 with (fail)
   refine rgK [0,1,2] 5 EX13 rfl fun hw=>?_
   refine ql rfl mH HK1.out hw ?_
   refine qo rfl hw ?_
   refine qv (v:= .slice (cutX 137 m.A 1 m.c) (m.n- 1) (m.c- 1)) rfl (fun u hu=>cutXl_op elBlkC (j:=1) u H1N.out rfl rfl) hw ?_
   refine wpG_nil<|aO 3 (hOp_turn (gd:=none) (R:=fun xv M'=> ∃u6 N6,xv= .tuple #[.agg (tipA u6), .int .i64 (rc.2:Int)]∧M'=N6++((g4,oc (tipA t1) 41)::(N1++((w.heap.size,oc (tipA noTipM) 41)::[])))∧KeptA N6 (IsTip rc.1 u6)∧(∃v,IsTip rc.1 u6 v)∧ ∀z∈N6,∀x∈(w.heap.size,oc (tipA noTipM) 41)::BS,z.1≠x.1) rfl rfl rfl rfl (fun u hu=>OUpon_call (fid:=40) (xs:= #[.tmp 31, .tmp 33]) (args:= #[tipV t1, .slice (cutX 137 m.A 1 m.c) (m.n- 1) (m.c- 1)]) rfl func40 rfl rfl u (pushAll_turn (g:=fun k=> ∀x∈(w.heap.size,oc (tipA noTipM) 41)::BS,k≠x.1) (HPA.out u t1 N1 (EnvX.bel hu) HT1.out (fun y MEM=>⟨(HN1.out y MEM).1,fun e=>(HN1.out y MEM).2 _ mH e.symm,EnvX.box hu _ _ (mT (mL MEM))⟩) (EnvX.box hu _ _ (mT (mR mH)))) hu)) ?_)
   rintro xv_ M'_ ⟨u6,N6,rfl,rfl,hk6,hv6,hn6⟩ he16;intro K' hK';go_big_quiet_op;go_big_quiet_on
   have HT6:=hD hk6
   have HV6:=hD hv6
   have HN6:=hD hn6
   have HK6:Hid (lenH u6.b.h):=by obtain⟨v,hv⟩:=HV6.out;exact hv.2.b.h.len
   clear hk6 hv6 hn6
   refine phF [4,5] 2 rfl he16 fun hw=>?_
   refine qw 2 hw ?_
   refine wpG_nil<|aO 6 (hOp_store rfl (w.heap.size) (tipA u6) rfl rfl (Nat.le_refl _) 41 ((tipA noTipM)) (mR (mT (mR mH))) (infoTip _ (tipA_size HK6.out)) (tip_sizes HK6.out) (tipA_one _) ((w.heap.size,oc (tipA u6) 41)::(N6++[])) (mA ⟨.inl rfl,fun y hy=> .inr ⟨mL (by simpa using hy),HN6.out y (by simpa using hy) _ mH⟩⟩) ?_)
   intro he18
   refine phF [7] 0 rfl he18 fun hw=>?_
   refine qo rfl hw ?_
   refine eH fun u21 EX20=>?_
   have HFB:Hid (∀y∈N6,(∀x∈BS,y.1≠x.1)∧u21.heap[y.1]?=some y.2):=fun y hy=>⟨fun x hx=>HN6.out y hy x (mT hx),EnvX.box EX20.out _ _ (mT (by simpa using hy))⟩
   have Q0:=hD (EnvX.box EX20.out _ _ mH)
   have HBEL:=hD EX20.out.bel
   clear EX20
   go_wp2_with ((with_reducible refine bodyPost_ret (v:= .tuple #[.agg (tipA u6), .int .i64 (rc.2:Int)]) ?_ ?_ ?_);(exact results_row_slot (p:=2) (q:=3) (ty:=41) results13 _ _ (w.heap.size) 41 (tipA u6) (0,0) _ rfl _ rfl Q0.out underlying41 rfl (infoTip _ (tipA_size HK6.out)));(rfl))
   first|exact⟨⟨u6,N6,by rw[HF.out]<;>rfl,by rw[HF.out];exact HT6.out,HFB.out⟩,HBEL.out⟩|exact⟨⟨u6,N6,by rw[HF.out]<;>first|rfl|exact⟨rfl,rfl⟩,by rw[HF.out];exact HT6.out,fun a b hy=>⟨fun p q hx=>(HFB.out (a,b) hy).1 (p,q) hx,(HFB.out (a,b) hy).2⟩⟩,HBEL.out⟩|exact⟨⟨u6,by rw[HF.out]<;>first|rfl|exact⟨rfl,rfl⟩,N6,by rw[HF.out];exact HT6.out,fun a b hy=>⟨fun p q hx=>(HFB.out (a,b) hy).1 (p,q) hx,(HFB.out (a,b) hy).2⟩⟩,HBEL.out⟩
theorem vccheck_sep(BS:Boxes)(m:RowM)(w:World)(hg: ∀y∈BS,w.heap[y.1]?=some y.2∧ ∃z,y.2=oc (tipA z) 41)(hm:RowOk w m)(mm:midRowR m.r)(ht:Tables w):
   Calls Tryz.prog 13 #[rowV m] w fun e w'=>(∃(t:TipM)(N:Boxes),e= .returned (.tuple #[tipV t, .int .i64 ((checkC m.r).2:Int)])∧KeptA N (IsTip (checkC m.r).1 t)∧ ∀y∈N,(∀x∈BS,y.1≠x.1)∧w'.heap[y.1]?=some y.2)∧Below w.heap.size w w':=by
 rcases Nat.eq_zero_or_pos m.n with h|h
 · exact vccheck_none BS m w hg hm mm ht h
 · exact vccheck_some BS m w hg hm mm ht h
theorem vccheck(m:RowM)(w:World)(hm:RowOk w m)(mm:midRowR m.r)(ht:Tables w):
  Calls Tryz.prog 13 #[rowV m] w fun e w'=>(∃t:TipM,e= .returned (.tuple #[tipV t, .int .i64 ((checkC m.r).2:Int)])∧IsTip (checkC m.r).1 t w')∧Below w.heap.size w w':=
 (vccheck_sep [] m w (fun y hy=>by cases hy) hm mm ht).mono fun e w'⟨⟨t,N,he,hk,hN⟩,hb⟩=>⟨⟨t,he,hk w w' N ⟨hb,fun g o hm=>(hN (g,o) hm).2⟩ (fun y hy=>hy)⟩,hb⟩
theorem vcnew(bits:Nat)(w:World)(hb:bits<4294967296)(ht:Tables w):
  Calls Tryz.prog 17 #[.int .u32 (bits:Int)] w fun e w'=>(∃m:RowM,e= .returned (.tuple #[rowV m, .bool (newB bits).2])∧IsRow (newB bits).1 m w')∧Below w.heap.size w w':=by
 have HFI:Hid (∀u,EnvX w u []→Hands 38 #[.int .u32 (bits:Int)] u (RTipE (firstK bits).1 (firstK bits).2)):=fun u hu=>vbfirst_sep bits u hb (ht.below (EnvX.bel hu))
 have E1:Hid (EnvX w w []):=EnvX.start w
 obtain⟨bc,hbc⟩: ∃bc,isC bits=bc:=⟨_,rfl⟩
 have HFE:Hid (firstK bits=(if bc then (tipK bits,true)else (noTip,false))):=by show _=_;unfold firstK;rw[hbc]
 have HF:Hid (newB bits=(if bc then ([(tipK bits).b],true)else ([],false))):=by show _=_;unfold newB;rw[hbc]
 clear hb ht hbc
 rw[HFE.out]at HFI
 cases bc with
 |false=>
  go_enter func17,ntmps17
  go_upto_region 1 with (fail)
  refine rgQ [0] [1,2,3,4,5,6,7] E1 rfl fun hw=>?_
  refine qo rfl hw ?_
  refine wpG_nil<|(hOp_turn (gd:=none) (R:=fun xv M'=> ∃Nq,RTipE (noTip) false xv Nq∧M'=Nq++[]∧ ∀y∈Nq,w.heap.size≤y.1∧ ∀z∈([]:Boxes),z.1≠y.1) rfl rfl rfl rfl (fun u hu=>OUpon_call (fid:=38) (xs:= #[.tmp 7]) (args:= #[.int .u32 (bits:Int)]) rfl func38 rfl rfl u (hands_turn (HFI.out u hu) hu)) ?_)
  rintro xv_ M'_ ⟨N1,hR1,hM1,hn1⟩ he2;intro K' hK';go_big_quiet_op;go_big_quiet_on
  obtain rfl:=(show N1=M'_ by rw[hM1,List.append_nil])
  obtain⟨t1,rfl,hk1,hv1⟩:=hR1
  have HT1:=hD hk1
  have HV1:=hD hv1
  have HK1:Hid (lenH t1.b.h):=by obtain⟨v,hv⟩:=HV1.out;exact hv.2.b.h.len
  clear hk1 hv1 hn1 hM1
  refine phE [2,3,4] [5,6,7] he2 fun hw=>?_
  refine qw 3 hw ?_
  refine wpG_nil<|qn rfl (new_tip _) fun g4 HGg4 he4=>?_
  change lexH _ _ _ _ _ _ ((g4,oc (tipA noTipM) 41)::N1)
  refine(sh rfl HGg4 (infoTip _ (tipA_size HK1.out)) (tip_sizes HK1.out) (tipA_one _) ?_)
  intro he5
  refine phE [7] [] he5 fun hw=>?_
  refine qo rfl hw ?_
  refine enP fun u8 EX7=>?_
  go_upto_region 2 with (fail)
  refine rgQ [0,1] [] EX7 rfl fun hw=>?_
  refine qw 2 hw ?_
  refine enP fun u11 EX10=>?_
  go_upto_region 3 with (fail)
  refine rgQ [0,1] [] EX10 rfl fun hw=>?_
  refine qw 2 hw ?_
  refine enP fun u14 EX13=>?_
  have HBE:=hD (EnvX.bel EX13.out)
  go_wp2
  go_returns
  exact⟨⟨⟨[],none,0,0⟩,by rw[HF.out]<;>first|rfl|exact⟨rfl,rfl⟩,by rw[HF.out];exact⟨rfl,⟨rfl,⟨Nat.le_refl _,Nat.zero_le _⟩,⟨fun h=>absurd h (Nat.lt_irrefl 0),fun t h=>by cases h⟩⟩⟩⟩,HBE.out⟩
 | true=>
  go_enter func17,ntmps17
  go_upto_region 1 with (fail)
  refine rgQ [0] [1,2,3,4,5,6,7] E1 rfl fun hw=>?_
  refine qo rfl hw ?_
  refine wpG_nil<|(hOp_turn (gd:=none) (R:=fun xv M'=> ∃Nq,RTipE (tipK bits) true xv Nq∧M'=Nq++[]∧ ∀y∈Nq,w.heap.size≤y.1∧ ∀z∈([]:Boxes),z.1≠y.1) rfl rfl rfl rfl (fun u hu=>OUpon_call (fid:=38) (xs:= #[.tmp 7]) (args:= #[.int .u32 (bits:Int)]) rfl func38 rfl rfl u (hands_turn (HFI.out u hu) hu)) ?_)
  rintro xv_ M'_ ⟨N1,hR1,hM1,hn1⟩ he2;intro K' hK';go_big_quiet_op;go_big_quiet_on
  obtain rfl:=(show N1=M'_ by rw[hM1,List.append_nil])
  obtain⟨t1,rfl,hk1,hv1⟩:=hR1
  have HT1:=hD hk1
  have HV1:=hD hv1
  have HK1:Hid (lenH t1.b.h):=by obtain⟨v,hv⟩:=HV1.out;exact hv.2.b.h.len
  clear hk1 hv1 hn1 hM1
  refine phE [2,3,4] [5,6,7] he2 fun hw=>?_
  refine qw 3 hw ?_
  refine wpG_nil<|qn rfl (new_tip _) fun g4 HGg4 he4=>?_
  change lexH _ _ _ _ _ _ ((g4,oc (tipA noTipM) 41)::N1)
  refine(sh rfl HGg4 (infoTip _ (tipA_size HK1.out)) (tip_sizes HK1.out) (tipA_one _) ?_)
  intro he5
  refine phE [7] [] he5 fun hw=>?_
  refine qo rfl hw ?_
  refine enP fun u8 EX7=>?_
  go_upto_region 2 with (fail)
  refine rgQ [0,1] [] EX7 rfl fun hw=>?_
  refine qw 2 hw ?_
  refine enP fun u11 EX10=>?_
  go_upto_region 4 with (fail)
  refine rgQ [0,1] [2,3,4] EX10 rfl fun hw=>?_
  refine qf rfl hw ?_
  refine ql rfl mH HK1.out hw ?_
  refine wpG_nil<|(hOp_fresh (R:=BuiltR 37 (blkC t1.b)) (M0:=((g4,oc (tipA t1) 41)::N1)) rfl rfl (fun _ h=>h) (fun u hu=>FAt_buildR elBlkC (blkC_len HK1.out) (blkC_one _) rfl u) ?_)
  rintro _ _ ⟨gb,rfl,rfl⟩ hf he13;intro K' hK';go_big_quiet_op;go_big_quiet_on
  clear hf
  refine phE [3,4] [] he13 fun hw=>?_
  refine qw 2 hw ?_
  refine enP fun u16 EX15=>?_
  have HRW:Hid (IsRow [(tipK bits).b] ⟨[t1.b],some ⟨gb,0,none⟩,1,1⟩ u16):=by
   have h:=HT1.out w u16 _ EX15.out (fun y MEM=>(mT (mT MEM)))
   refine⟨?_,rfl,⟨Nat.le_refl _,by show (1:Nat)≤maxLen;unfold maxLen;omega⟩,⟨?_,fun t ht=>?_⟩⟩
   · show [t1.b.r]=_
     rw[show t1.b.r=(tipK bits).b from congrArg TipR.b h.1]
   · show CellsIn _ _ _ ([blkC t1.b].flatten)
     rw[List.flatten_singleton]
     exact cells_box (show EnvC w _ _ from EX15.out) (show (gb,oc (blkC t1.b).toArray 37)∈_ from mH) rfl
   · cases mS.1 ht
     exact h.2.b
  have HBE:=hD (EnvX.bel EX15.out)
  go_wp2
  go_returns
  exact⟨⟨⟨[t1.b],some ⟨gb,0,none⟩,1,1⟩,by rw[HF.out]<;>first|rfl|exact⟨rfl,rfl⟩,by rw[HF.out];exact HRW.out⟩,HBE.out⟩
theorem vcgrow (m:RowM) (l:List TxM) (A:Option Addr) (n c:Nat) (nonce:Nat) (w:World) (hm:RowOk w m) (mm:midRowR m.r) (hl:l.length=n) (hnc:n≤c) (hcm:c≤maxLen) (hA:TxsIn w A l) (ml:midTxs l) (hno:nonce<18446744073709551616) (ht:Tables w):
  Calls Tryz.prog 15 #[rowV m, .slice A n c, .int .u64 (nonce:Int)] w fun e w'=>(∃q:RowM,e= .returned (.tuple #[rowV q, .int .i64 ((growC m.r (rsT l) nonce).2:Int)])∧IsRow (growC m.r (rsT l) nonce).1 q w')∧Below w.heap.size w w':=by
 have HMM:=hD mm
 have HN2:Hid (m.n+1≤2000000):=by have h:=mm.len;rw[hm.l]at h;show _≤_;omega
 have HEA:Hid (∀u,EnvX w u []→Hands 44 #[.slice m.A m.n m.c, .func (.func 45) #[] #[]] u (RBlks m.r m.n)):=fun u hu=>vceachB m.l m.A m.n m.c u hm.l (by rw[←hm.l];exact Nat.le_trans mm.len (by decide)) (hm.m.up (EnvX.bel hu)) mm.mem
 have HCK:Hid (∀u,EnvX w u []→Calls Tryz.prog 13 #[.slice m.A m.n m.c] u fun e w'=>(∃t:TipM,e= .returned (.tuple #[tipV t, .int .i64 ((checkC m.r).2:Int)])∧IsTip (checkC m.r).1 t w')∧Below u.heap.size u w'):=fun u hu=>vccheck m u (hm.up (EnvX.bel hu)) mm (ht.below (EnvX.bel hu))
 have HMI:Hid (∀(u:World)(t:TipM),EnvX w u []→IsTip (checkC m.r).1 t u→Hands 46 #[tipV t, .slice A n c, .int .u64 (nonce:Int), .int .i64 200] u (RBlkE (mineK (checkC m.r).1 (rsT l) nonce 200).1 (mineK (checkC m.r).1 (rsT l) nonce 200).2)):=fun u t hu h=>by
  have k:=vbmine_sep t l A n c nonce 200 u h.2 (check_mid mm h) hl hnc hcm (hA.up (EnvX.bel hu)) ml hno (by unfold I64;omega) (ht.below (EnvX.bel hu))
  rw[h.1]at k
  exact k
 have E1:Hid (EnvX w w []):=EnvX.start w
 have HG1:Hid ((checkC m.r).2≠0→growC m.r (rsT l) nonce=(m.r,(checkC m.r).2)):=fun h=>by unfold growC;rw[if_pos h]
 have HG2:Hid ((checkC m.r).2=0→growC m.r (rsT l) nonce=if (mineK (checkC m.r).1 (rsT l) nonce 200).2≠0 then (m.r,(mineK (checkC m.r).1 (rsT l) nonce 200).2)else (m.r++[(mineK (checkC m.r).1 (rsT l) nonce 200).1],0)):=fun h=>by unfold growC;rw[if_neg (fun k=>k h)]
 obtain⟨rc,ec,hrc⟩: ∃rc ec,checkC m.r=(rc,ec):=⟨_,_,rfl⟩
 rw[hrc]at HCK HMI HG1 HG2
 obtain⟨rb,eb,hrb⟩: ∃rb eb,mineK rc (rsT l) nonce 200=(rb,eb):=⟨_,_,rfl⟩
 simp only at HCK HMI HG1 HG2
 rw[hrb]at HMI HG2
 simp only at HMI HG2
 clear hm mm hl hnc hcm hA ml hno ht hrc hrb
 unfold rowV
 go_enter func15,ntmps15
 go_upto_region 1 with (fail)
 refine rgQ [0] [1,2] E1 rfl fun hw=>?_
 refine qo rfl hw ?_
 refine wpG_nil<|qr rfl func44 (fun u hu=>HEA.out u (nl hu)) ?_
 rintro x1 N1 hF hf he2
 obtain⟨q,Nx,Ni,hN1,hq,hr,hfr,hap,hok⟩:=hF
 obtain⟨A',c',rfl,hc1,hc2⟩:=FreshR.formR hfr
 have HNE:=hD hN1
 have HQ:=hD hq
 have HR:=hD hr
 have HFR:=hD hfr
 have HAP:=hD hap
 have HOK:=hD hok
 have HC1:=hD (And.intro hc1 hc2)
 have HNL:Hid (∀y∈N1,w.heap.size≤y.1):=fun y hy=>(hf y hy).1
 clear hN1 hq hr hfr hap hok hc1 hc2
 clear hf
 change lexH _ _ _ _ _ _ (N1++[])
 rw[List.append_nil]at he2 ⊢
 refine phE [2] [] he2 fun hw=>?_
 refine qo rfl hw ?_
 refine enP fun u5 EX4=>?_
 have E2:Hid (EnvX w u5 (Nx++Ni)):=by have h:=EX4.out;rwa[HNE.out]at h
 have HNX:Hid (∀y∈Nx,w.heap.size≤y.1):=fun y hy=>HNL.out y (by rw[HNE.out];exact mL hy)
 have HRO:Hid (KeptA (Nx++Ni) (fun u=>RowOk u ⟨q,A',m.n,c'⟩)):=blks_row HQ.out HFR.out HC1.out HOK.out
 have HFL:Hid ((q.map blkC).flatten.length=m.n*137):=blks_flat HQ.out (fun t ht=>HOK.out t ht w _ _ E2.out (fun y hy=>mR hy))
 clear EX4 HNL HNE
 go_upto_region 2 with (fail)
 refine rgQ [0] [1,2,3,4,5,6,7] E2 rfl fun hw=>?_
 refine qo rfl hw ?_
 refine wpG_nil<|(hOp_turn (gd:=none) (R:=fun x M'=> ∃tq N,x= .tuple #[.agg (tipA tq), .int .i64 (ec:Int)]∧M'=N++(Nx++Ni)∧KeptB w N (IsTip (rc) tq)∧ ∃vq,IsTip (rc) tq vq) rfl rfl rfl rfl (fun u hu=>OUpon_call (fid:=13) (xs:= #[.tmp 15]) (args:= #[.slice m.A m.n m.c]) rfl func13 rfl rfl u (tip_turn (HCK.out u (nl hu)) hu)) ?_)
 rintro _ _ ⟨t9,N9,rfl,rfl,hk9,hv9⟩ he17;intro K' hK';go_big_quiet_op;go_big_quiet_on
 have HT9:=hD hk9
 have HV9:=hD hv9
 have HK9:Hid (lenH t9.b.h):=by obtain⟨v,hv⟩:=HV9.out;exact hv.2.b.h.len
 clear hk9 hv9
 refine phE [2,3,4] [5,6,7] he17 fun hw=>?_
 refine qw 3 hw ?_
 refine wpG_nil<|qn rfl (new_tip _) fun g9 HGg9 he19=>?_
 change lexH _ _ _ _ _ _ ((g9,oc (tipA noTipM) 41)::(N9++(Nx++Ni)))
 refine(sh rfl HGg9 (infoTip _ (tipA_size HK9.out)) (tip_sizes HK9.out) (tipA_one _) ?_)
 intro he20
 refine phE [7] [] he20 fun hw=>?_
 refine qo rfl hw ?_
 refine enP fun u23 EX22=>?_
 cases ec with
 |succ ec=>
  have D3:Hid (decide (((ec+1:Nat):Int)≠0)=true):=decide_eq_true (by omega)
  have HF:Hid (growC m.r (rsT l) nonce=(m.r,ec+1)):=HG1.out (Nat.succ_ne_zero _)
  go_upto_region 3 with (fail)
  refine rgQ [0,1] [] EX22 rfl fun hw=>?_
  refine qo rfl hw ?_
  refine qv rfl (fun u hu=>neErr_op u D3.out rfl rfl) hw ?_
  refine enP fun u26 EX25=>?_
  go_upto_region 4 with (fail)
  refine rgQ [0,1,2,3] [] EX25 rfl fun hw=>?_
  refine qw 4 hw ?_
  refine enP fun u29 EX28=>?_
  have HRW:Hid (IsRow m.r ⟨q,A',m.n,c'⟩ u29):=⟨HR.out,HRO.out w _ _ EX28.out (fun y hy=>(List.mem_append.1 hy).elim (fun MEM=>(mT (mR (mL MEM)))) (fun MEM=>(mT (mR (mR MEM)))))⟩
  have HBE:=hD (EnvX.bel EX28.out)
  go_wp2
  go_returns
  exact⟨⟨⟨q,A',m.n,c'⟩,by rw[HF.out]<;>first|rfl|exact⟨rfl,rfl⟩,by rw[HF.out];exact HRW.out⟩,HBE.out⟩
 | zero =>
  have D3:Hid (decide (((0:Nat):Int)≠0)=false):=decide_eq_false (by omega)
  replace HG2:=hD (HG2.out rfl)
  go_upto_region 3 with (fail)
  refine rgQ [0,1] [] EX22 rfl fun hw=>?_
  refine qo rfl hw ?_
  refine qv rfl (fun u hu=>neErr_op u D3.out rfl rfl) hw ?_
  refine enP fun u26 EX25=>?_
  go_upto_region 5 with (fail)
  refine rgQ [0,1,2] [3,4,5,6,7,8,9] EX25 rfl fun hw=>?_
  refine ql rfl mH HK9.out hw ?_
  refine qw 2 hw ?_
  refine wpG_nil<|(hOp_turn (gd:=none) (R:=fun xv M'=> ∃Nq,RBlkE rb eb xv Nq∧M'=Nq++((g9,oc (tipA t9) 41)::(N9++(Nx++Ni)))∧ ∀y∈Nq,w.heap.size≤y.1∧ ∀z∈((g9,oc (tipA t9) 41)::(N9++(Nx++Ni))),z.1≠y.1) rfl rfl rfl rfl (fun u hu=>OUpon_call (fid:=46) (xs:= #[.tmp 24, .tmp 25, .tmp 26, .const (.int .i64 200)]) (args:= #[tipV t9, .slice A n c, .int .u64 (nonce:Int), .int .i64 200]) rfl func46 rfl rfl u (hands_turn (HMI.out u t9 (nl hu) (HT9.out u _ hu (fun y MEM=>(mT (mL MEM))))) hu)) ?_)
  rintro xv_ M'_ ⟨N5,hR5,rfl,hn5⟩ he28;intro K' hK';go_big_quiet_op;go_big_quiet_on
  obtain⟨b5,rfl,hk5,hv5⟩:=hR5
  have HN5:=hD hn5
  clear hn5
  have HT5:=hD hk5
  have HV5:=hD hv5
  have HK5:Hid (lenH b5.h):=by obtain⟨v,hv⟩:=HV5.out;exact hv.2.h.len
  clear hk5 hv5
  refine phE [4,5,6] [7,8,9] he28 fun hw=>?_
  refine qw 3 hw ?_
  refine wpG_nil<|qn rfl (new_blk _) fun g11 HGg11 he30=>?_
  change lexH _ _ _ _ _ _ ((g11,oc (blkA noBlkM) 37)::(N5++((g9,oc (tipA t9) 41)::(N9++(Nx++Ni)))))
  refine(sh rfl HGg11 (infoBlk _ (blkA_size HK5.out)) (blk_sizes HK5.out) (blkA_one _) ?_)
  intro he31
  refine phE [9] [] he31 fun hw=>?_
  refine qo rfl hw ?_
  refine enP fun u34 EX33=>?_
  cases eb with
  |succ eb=>
   have D3:Hid (decide (((eb+1:Nat):Int)≠0)=true):=decide_eq_true (by omega)
   have HF:Hid (growC m.r (rsT l) nonce=(m.r,eb+1)):=by show _=_;rw[HG2.out,if_pos (Nat.succ_ne_zero _)]
   go_upto_region 6 with (fail)
   refine rgQ [0,1] [] EX33 rfl fun hw=>?_
   refine qo rfl hw ?_
   refine qv rfl (fun u hu=>neErr_op u D3.out rfl rfl) hw ?_
   refine enP fun u37 EX36=>?_
   go_upto_region 7 with (fail)
   refine rgQ [0,1,2,3] [] EX36 rfl fun hw=>?_
   refine qw 4 hw ?_
   refine enP fun u40 EX39=>?_
   have HRW:Hid (IsRow m.r ⟨q,A',m.n,c'⟩ u40):=⟨HR.out,HRO.out w _ _ EX39.out (fun y hy=>(List.mem_append.1 hy).elim (fun MEM=>(mT (mR (mT (mR (mL MEM)))))) (fun MEM=>(mT (mR (mT (mR (mR MEM)))))))⟩
   have HBE:=hD (EnvX.bel EX39.out)
   go_wp2
   go_returns
   exact⟨⟨⟨q,A',m.n,c'⟩,by rw[HF.out]<;>first|rfl|exact⟨rfl,rfl⟩,by rw[HF.out];exact HRW.out⟩,HBE.out⟩
  | zero=>
   have D3:Hid (decide (((0:Nat):Int)≠0)=false):=decide_eq_false (by omega)
   have HF:Hid (growC m.r (rsT l) nonce=(m.r++[rb],0)):=by show _=_;rw[HG2.out,if_neg (fun h=>h rfl)]
   go_upto_region 6 with (fail)
   refine rgQ [0,1] [] EX33 rfl fun hw=>?_
   refine qo rfl hw ?_
   refine qv rfl (fun u hu=>neErr_op u D3.out rfl rfl) hw ?_
   refine enP fun u37 EX36=>?_
   go_upto_region 8 with (fail)
   refine rgQ [0,1] [2,3,4,5] EX36 rfl fun hw=>?_
   refine qo rfl hw ?_
   refine ql rfl mH HK5.out hw ?_
   refine wpG_nil<|(hOp_fresh (R:=BuiltR 37 (blkC b5)) (M0:=((g11,oc (blkA b5) 37)::(N5++((g9,oc (tipA t9) 41)::(N9++(Nx++Ni)))))) rfl rfl (fun _ h=>h) (fun u hu=>FAt_buildR elBlkC (blkC_len HK5.out) (blkC_one _) rfl u) ?_)
   rintro _ _ ⟨gb,rfl,rfl⟩ hf he39;intro K' hK';go_big_quiet_op;go_big_quiet_on
   clear hf
   change lexH _ _ _ _ _ _ ((gb,oc (blkC b5).toArray 37)::((g11,oc (blkA b5) 37)::(N5++((g9,oc (tipA t9) 41)::(N9++(Nx++Ni))))))
   refine(hOp_own (gd:=none) (R:=GrownR w 37 137 (m.n+1) ((q.map blkC).flatten++blkC b5) (Ni++N5)) rfl rfl rfl rfl (fun u hu=>appX_op elBlkC (m:=1) (Ni++N5) hu HFL.out (by rw[Nat.one_mul];exact blkC_len HK5.out) (blkC_one _) HFR.out (fun y MEM=>⟨(mT (mT (mR (mT (mR (mL MEM)))))),HNX.out y MEM⟩) (src_box (k:=0) hu mH (by rw[List.drop_zero,List.take_length])) (fun y hy=>(List.mem_append.1 hy).elim (fun MEM=>⟨(mT (mT (mR (mT (mR (mR MEM)))))),fun z hz=>HAP.out y MEM z hz⟩) (fun MEM=>⟨(mT (mT (mL MEM))),fun z MEM2 e=>(HN5.out y MEM).2 z (mT (mR (mL MEM2))) e.symm⟩)) HN2.out rfl rfl) ?_)
   rintro x8 M'8 ⟨N8,rfl,hF8,hn8⟩ he40;intro K' hK';go_big_quiet_op;go_big_quiet_on
   obtain⟨A8,c8,rfl,k1,k2⟩:=FreshR.formR hF8
   have HF8:=hD (And.intro hF8 (And.intro k1 k2))
   clear hF8 hn8 k1 k2
   refine phE [4,5] [] he40 fun hw=>?_
   refine qw 2 hw ?_
   refine enP fun u43 EX42=>?_
   have HRW:Hid (IsRow (m.r++[rb]) ⟨q++[b5],A8,m.n+1,c8⟩ u43):=by
    have hk:=blks_row (q:=q++[b5]) (N:=Ni++N5) (by rw[lA,HQ.out];rfl) (by rw[List.map_append,List.flatten_append,List.map_singleton,List.flatten_singleton];exact HF8.out.1) HF8.out.2 (fun t ht=>?_)
    · refine⟨?_,hk w _ _ EX42.out (fun y hy=>hy)⟩
      obtain⟨v,hv⟩:=HV5.out
      show rsB (q++[b5])=_
      rw[rsB_app,HR.out]
      show m.r++[b5.r]=_
      rw[hv.1]
    · rcases List.mem_append.1 ht with h|h
      · exact(HOK.out t h).mono (fun y hy=>mL hy)
      · cases mS.1 h
        exact fun w0 u M hu hM=>(HT5.out w0 u M hu (fun y hy=>hM y (mR hy))).2
   have HBE:=hD (EnvX.bel EX42.out)
   go_wp2
   go_returns
   exact⟨⟨⟨q++[b5],A8,m.n+1,c8⟩,by rw[HF.out]<;>first|rfl|exact⟨rfl,rfl⟩,by rw[HF.out];exact HRW.out⟩,HBE.out⟩
theorem vclevels(m:RowM)(w:World)(hm:RowOk w m)(hl:m.l.length≤100000)(ht:Tables w):
  Calls Tryz.prog 22 #[rowV m] w fun e w'=>(∃v,e= .returned v∧w'.ownsRow w.heap.size 3 1 v m.n ((levelsB m.r).map i64V))∧Below w.heap.size w w':=by
 have HEA:Hid (∀u,EnvX w u []→Calls Tryz.prog 50 #[.slice m.A m.n m.c, .func (.func 51) #[] #[]] u fun e w'=>(∃v,e= .returned v∧w'.ownsRow u.heap.size 3 1 v m.n ((levelsB m.r).map i64V))∧Below u.heap.size u w'):=fun u hu=>vceachI m.l m.A m.n m.c u hm.l (by rw[←hm.l];exact Nat.le_trans hl (by decide)) (hm.m.up (EnvX.bel hu)) (ht.below (EnvX.bel hu))
 have HLE:Hid (((levelsB m.r).map i64V).length=m.n*1):=by
  show _=_
  unfold levelsB
  rw[lM,lM,m.r_len,hm.l,Nat.mul_one]
 have E1:Hid (EnvX w w []):=EnvX.start w
 clear hm hl ht
 unfold rowV
 go_enter func22,ntmps22
 go_upto_region 1 with (fail)
 refine rgQ [0] [1,2] E1 rfl fun hw=>?_
 refine qo rfl hw ?_
 refine wpG_nil<|qr rfl func50 (fun u hu=>callsR_fresh (HEA.out u (nl hu))) ?_
 rintro x1 N1 hF hf he2
 have HF1:=hD hF
 have HNB:Hid (∀y∈N1,w.heap.size≤y.1):=fun y hy=>(hf y hy).1
 clear hF
 clear hf
 change lexH _ _ _ _ _ _ (N1++[])
 rw[List.append_nil]at he2 ⊢
 refine phE [2] [] he2 fun hw=>?_
 refine qo rfl hw ?_
 refine enP fun u5 EX4=>?_
 have HOW:Hid (u5.ownsRow w.heap.size 3 1 x1 m.n ((levelsB m.r).map i64V)):=HF1.out.own HLE.out (fun y hy=>⟨HNB.out y hy,EnvX.box EX4.out _ _ (by simpa using hy)⟩)
 have HBE:=hD (EnvX.bel EX4.out)
 go_wp2
 go_ret
 exact⟨⟨_,rfl,HOW.out⟩,HBE.out⟩
theorem vcleaves(m:RowM)(w:World)(hm:RowOk w m)(hl:m.l.length≤100000)(ht:Tables w):
  Calls Tryz.prog 26 #[rowV m] w fun e w'=>(∃v,e= .returned v∧w'.ownsRow w.heap.size 61 37 v m.n (((leavesB m.r).map totC).flatten))∧Below w.heap.size w w':=by
 have HEA:Hid (∀u,EnvX w u []→Calls Tryz.prog 55 #[.slice m.A m.n m.c, .func (.func 56) #[] #[]] u fun e w'=>(∃v,e= .returned v∧w'.ownsRow u.heap.size 61 37 v m.n (((leavesB m.r).map totC).flatten))∧Below u.heap.size u w'):=fun u hu=>vceachL m.l m.A m.n m.c u hm.l (by rw[←hm.l];exact Nat.le_trans hl (by decide)) (hm.m.up (EnvX.bel hu)) (ht.below (EnvX.bel hu))
 have HLE:Hid ((((leavesB m.r).map totC).flatten).length=m.n*37):=by
  show _=_
  rw[flatT_len (leaves_okB m.r).1]
  unfold leavesB
  rw[lM,m.r_len,hm.l]
 have E1:Hid (EnvX w w []):=EnvX.start w
 clear hm hl ht
 unfold rowV
 go_enter func26,ntmps26
 go_upto_region 1 with (fail)
 refine rgQ [0] [1,2] E1 rfl fun hw=>?_
 refine qo rfl hw ?_
 refine wpG_nil<|qr rfl func55 (fun u hu=>callsR_fresh (HEA.out u (nl hu))) ?_
 rintro x1 N1 hF hf he2
 have HF1:=hD hF
 have HNB:Hid (∀y∈N1,w.heap.size≤y.1):=fun y hy=>(hf y hy).1
 clear hF
 clear hf
 change lexH _ _ _ _ _ _ (N1++[])
 rw[List.append_nil]at he2 ⊢
 refine phE [2] [] he2 fun hw=>?_
 refine qo rfl hw ?_
 refine enP fun u5 EX4=>?_
 have HOW:Hid (u5.ownsRow w.heap.size 61 37 x1 m.n (((leavesB m.r).map totC).flatten)):=HF1.out.own HLE.out (fun y hy=>⟨HNB.out y hy,EnvX.box EX4.out _ _ (by simpa using hy)⟩)
 have HBE:=hD (EnvX.bel EX4.out)
 go_wp2
 go_ret
 exact⟨⟨_,rfl,HOW.out⟩,HBE.out⟩
theorem chainC:ChainC where
 check:=fun m w hm mm ht=>vccheck m w hm mm ht
 new:=fun bits w hb ht=>vcnew bits w hb ht
 grow:=fun m l A n c nonce w hm mm hl hnc hcm hA ml hno ht=>vcgrow m l A n c nonce w hm mm hl hnc hcm hA ml hno ht
 find:=fun m id w hm hn hid ht=>vcfind m id w hm hn hid ht
 levels:=fun m w hm hl ht=>vclevels m w hm hl ht
 leaves:=fun m w hm hl ht=>vcleaves m w hm hl ht
 same:=fun m q w hm mm hq mq _=>vcsame m q w hm mm hq mq
end Go.Proofs.YtojmeodoenkapaaGreatDoor
