/-
  PROVED: the law stepladderlaw12.ChainSpoiled answers true for every input whose reading is of bulk at most 1048576, and leaves its arguments as they were.
  Conditions: the two package-level tables of package sha hold at the call what their initialisers lay; the card ties that to the text of the program (a pruned copy of the project: the packages that the roots of this seat load).
-/
import Derived.Test.YtojmeodoenkapaaGreatDoorZk
open Go.Proofs.Tryz
namespace Go.Proofs.YtojmeodoenkapaaGreatDoor
set_option maxRecDepth 20000
set_option maxHeartbeats 8000000
set_option linter.unusedVariables false
set_option linter.unusedSimpArgs false
section
variable {l:List BlkR}
theorem ch_prev(h:(checkC l).2=0){k:Nat}(h2:k+1<l.length):(atB l (k+1)).h.prev=idH (atB l k).h:=by
 have g:(atB l (k+1)).h.prev=idH (tipB l (k+1)).b.h:=congrArg Hd.prev (ch_head h h2)
 rw[g,ch_last h (by omega)]
theorem spoil{i:Nat}{b:BlkR}(h:(checkC l).2=0)(h2:i+1<l.length)(h':(checkC (l.set i b)).2=0):idH b.h=idH (atB l i).h∧(atB l (i+1)).h.prev=idH b.h:=by
 have hl:(l.set i b).length=l.length:=List.length_set ..
 have e1:atB (l.set i b) i=b:=by
  unfold atB
  rw[gD,List.getElem?_set_self (by omega)]
  rfl
 have e2:atB (l.set i b) (i+1)=atB l (i+1):=by
  unfold atB
  rw[gD,List.getElem?_set_ne (by omega),gD]
 have p1:=ch_prev h h2
 have p2:=ch_prev h' (k:=i) (by omega)
 rw[e1,e2]at p2
 exact⟨p2.symm.trans p1,p2⟩
end
open Go.RowKit
def setK(cs:Array Value)(k:Nat)(b:BlkM):Array Value:=(cs.toList.take k++blkC b++cs.toList.drop (k+137)).toArray
theorem blk_putK{cs:Array Value}{k:Nat}{b:BlkM}(hb:lenH b.h)(hk:k+137≤cs.size):(Tryz.prog.info? 37).map (·.size)=some (Value.agg (blkA b)).cells.size∧k+(Value.agg (blkA b)).cells.size≤cs.size∧(Value.agg (blkA b)).cells.all (·.oneCell')=true∧cs.toList.take k++(Value.agg (blkA b)).cells.toList++cs.toList.drop (k+(Value.agg (blkA b)).cells.size)=(setK cs k b).toList:=
 put_factsZ (v:=blkA b) (old:=cs) (cs:=setK cs k b) aggBlk.size (blkA_size hb) (blkA_one _) hk List.toList_toArray
theorem row_setK{u w0:World}{M:Boxes}{q:List BlkM}{cur:Array Value}{n c k g:Nat}{b:BlkM}(hu:EnvX w0 u M)(hm:(g,oc (setK cur (k*137) b) 37)∈M)(hq:q.length=n)(hnc:n≤c)(hcm:c≤maxLen)(hsz:cur.size=c*137)(hxs:cur.toList.take (n*137)=(q.map blkC).flatten)(hk:k<n)(he: ∀t∈q,BlkOk u t)(hb:BlkOk u b):RowOk u ⟨q.set k b,some ⟨g,0,none⟩,n,c⟩:=by
 have hR:isRows 137 (q.map blkC):=fun y hy=>by
  obtain⟨t,ht,rfl⟩:=List.mem_map.1 hy
  exact blkC_len (he t ht).h.len
 have h1:=row_set (v:=blkC b) hR (by rw[lM,hq]) hxs hk (blkC_len hb.h.len)
 rw[←List.map_set,Nat.zero_add]at h1
 have h2:=row_put_len (v:=blkC b) (z:=137) hk hnc (blkC_len hb.h.len) (by rw[Array.length_toList,hsz])
 rw[Nat.zero_add]at h2
 refine row_own (N:=[(g,oc (setK cur (k*137) b) 37)]) hu (fun y hy=>by cases mS.1 hy;exact hm) (.inl ⟨g,c,_,rfl,rfl,hnc,hcm,?_,?_⟩) (by rw[List.length_set,hq]) ⟨hnc,hcm⟩ (fun t ht=>?_)
 · unfold setK
   rw[List.size_toArray]
   exact h2
 · unfold setK
   rw[List.toList_toArray]
   exact h1
 · rcases List.mem_or_eq_of_mem_set ht with h|h
   · exact he t h
   · rw[h];exact hb
theorem rsB_set(l:List BlkM)(k:Nat)(b:BlkM):rsB (l.set k b)=(rsB l).set k b.r:=List.map_set
theorem law_chspoiled(H:ChainC)(m:RowM)(i:Int)(b:BlkM)(w:World)(km:RowOk w m)(mm:midRowR m.r)(kb:BlkOk w b)(mb:midBlk b)(hi:I64 i)(ht:Tables w):
  Rz 7 #[rowV m, .int .i64 i,blkV b] w (.bool true):=by
 unfold Rz
 have HT:=hD ht
 have HH:=hD H
 have HKM:=hD km
 have HL:Hid (m.l.length=m.n):=km.l
 have HN63:Hid (m.n<9223372036854775808):=km.n63
 have HAW:Hid (Rt w 10 #[] (.bool true)):=fun u hu=>chawake_any H u (ht.below (EnvX.bel hu))
 have HKb:Hid (lenH b.h):=kb.h.len
 have HOb:Hid (okHd b.h):=kb.h
 have HKB:=hD kb
 have HMB:=hD mb
 have HMR:=hD mm
 have HI64:=hD hi
 have HFM:Hid (fewB m.l=true→m.l.length≤50):=fun h=>(fewB_mid h).2
 obtain⟨fm,hfm⟩: ∃fm,fewB m.l=fm:=⟨_,rfl⟩
 obtain⟨fb,hfb⟩: ∃fb,fewK b=fb:=⟨_,rfl⟩
 rw[hfm]at HFM
 have HFW:Hid (Rt w 11 #[.slice m.A m.n m.c] (.bool fm)):=fun u hu=>by have h:=fewrow_any m u (km.up (EnvX.bel hu));rw[hfm]at h;exact h
 have HFB:Hid (fewB [b]=fb):=(fewB_one b).trans hfb
 have HCK:Hid (∀u,EnvX w u []→Calls Tryz.prog 13 #[.slice m.A m.n m.c] u fun e w'=>(∃t:TipM,e= .returned (.tuple #[tipV t, .int .i64 ((checkC m.r).2:Int)])∧IsTip (checkC m.r).1 t w')∧Below u.heap.size u w'):=fun u hu=>H.check m u (km.up (EnvX.bel hu)) mm (ht.below (EnvX.bel hu))
 obtain⟨rc,ec,hrc⟩: ∃rc ec,checkC m.r=(rc,ec):=⟨_,_,rfl⟩
 rw[hrc]at HCK
 simp only at HCK
 have HCE:=hD hrc
 have E1:Hid (EnvX w (w.alloc (.cells (blkA b) 37)) [(w.heap.size,oc (blkA b) 37)]):=(EnvX.start w).new _
 clear ht H km mm kb mb hi hfm hfb hrc
 unfold rowV blkV
 go_enter func7,ntmps7
 go_upto_region 1 with (fail)
 generalize w.alloc (.cells (blkA b) 37)=W at *
 refine rgQ [0,1] [] E1 rfl fun hw=>?_
 refine qc rfl func10 (fun u hu=>HAW.out u (nl hu)) hw ?_
 refine qo rfl hw ?_
 refine enP fun u3 EX2=>?_
 go_upto_region 2 with (fail)
 refine rgQ [0,1,2] [] EX2 rfl fun hw=>?_
 refine qo rfl hw ?_
 refine qc rfl func11 (fun u hu=>HFW.out u (nl hu)) hw ?_
 refine qo rfl hw ?_
 refine enP fun u6 EX5=>?_
 go_upto_region 3 with (fail)
 refine rgQ [0] [1,2,3] EX5 rfl fun hw=>?_
 refine ql rfl mH HKb.out hw ?_
 refine wpG_nil<|(hOp_fresh (R:=BuiltR 37 (blkC b)) (M0:=[(w.heap.size,oc (blkA b) 37)]) rfl rfl (fun _ h=>h) (fun u hu=>FAt_buildR elBlkC (blkC_len HKb.out) (blkC_one _) rfl u) ?_)
 rintro _ _ ⟨gb3,rfl,rfl⟩ hf he8;intro K' hK';go_big_quiet_op;go_big_quiet_on
 clear hf
 refine phE [2,3] [] he8 fun hw=>?_
 refine qc (args:= #[.slice (some ⟨gb3,0,none⟩) 1 1]) (v:= .bool fb) rfl func11 (fun u hu=>by have h:=fewrow_any ⟨[b],some ⟨gb3,0,none⟩,1,1⟩ u (row_one hu mH (HKB.out.up (EnvX.bel hu)));rw[HFB.out]at h;exact h) hw ?_
 refine qo rfl hw ?_
 refine enP fun u11 EX10=>?_
 go_upto_region 4 with (fail)
 refine rgQ [0] [1,2,3,4,5,6,7] EX10 rfl fun hw=>?_
 refine qo rfl hw ?_
 refine wpG_nil<|(hOp_turn (gd:=none) (R:=fun x M'=> ∃tq N,x= .tuple #[.agg (tipA tq), .int .i64 (ec:Int)]∧M'=N++[(gb3,oc (blkC b).toArray 37),(w.heap.size,oc (blkA b) 37)]∧KeptB w N (IsTip (rc) tq)∧ ∃vq,IsTip (rc) tq vq) rfl rfl rfl rfl (fun u hu=>OUpon_call (fid:=13) (xs:= #[.tmp 22]) (args:= #[.slice m.A m.n m.c]) rfl func13 rfl rfl u (tip_turn (HCK.out u (nl hu)) hu)) ?_)
 rintro _ _ ⟨t8,N8,rfl,rfl,hk8,hv8⟩ he13;intro K' hK';go_big_quiet_op;go_big_quiet_on
 have HT8:=hD hk8
 have HV8:=hD hv8
 have HK8:Hid (lenH t8.b.h):=by obtain⟨v,hv⟩:=HV8.out;exact hv.2.b.h.len
 clear hk8 hv8
 refine phE [2,3,4] [5,6,7] he13 fun hw=>?_
 refine qw 3 hw ?_
 refine wpG_nil<|qn rfl (new_tip _) fun g8 HGg8 he15=>?_
 change lexH _ _ _ _ _ _ ((g8,oc (tipA noTipM) 41)::(N8++((gb3,oc (blkC b).toArray 37)::((w.heap.size,oc (blkA b) 37)::[]))))
 refine(sh rfl HGg8 (infoTip _ (tipA_size HK8.out)) (tip_sizes HK8.out) (tipA_one _) ?_)
 intro he16
 refine phE [7] [] he16 fun hw=>?_
 refine qo rfl hw ?_
 refine enP fun u19 EX18=>?_
 have E5:Hid (EnvX w u19 [(w.heap.size,oc (blkA b) 37)]):=EnvX.sub EX18.out (fun y hy=>by cases mS.1 hy;exact(mT (mR (mT mH))))
 clear EX18
 cases fm with
 |false=>
  go_upto_region 5 with (fail)
  refine rgQ [0,1,2,3,4,5,6,7,8,9,10,11,12,13,14,15,16,17,18,19,20,21,22,23,24] [] E5 rfl fun hw=>?_
  refine qw 25 hw ?_
  refine enP fun u42 EX41=>?_
  go_upto_region 6 with (fail)
  refine rgQ [0,1] [] EX41 rfl fun hw=>?_
  refine qw 2 hw ?_
  refine enP fun u45 EX44=>?_
  have HBE:=hD (EnvX.bel EX44.out)
  go_wp2
  go_ret
  exact⟨rfl,HBE.out⟩
 | true=>
  cases fb with
  |false=>
   go_upto_region 5 with (fail)
   refine rgQ [0,1,2,3,4,5,6,7,8,9,10,11,12,13,14,15,16,17,18,19,20,21,22,23,24] [] E5 rfl fun hw=>?_
   refine qw 25 hw ?_
   refine enP fun u42 EX41=>?_
   go_upto_region 6 with (fail)
   refine rgQ [0,1] [] EX41 rfl fun hw=>?_
   refine qw 2 hw ?_
   refine enP fun u45 EX44=>?_
   have HBE:=hD (EnvX.bel EX44.out)
   go_wp2
   go_ret
   exact⟨rfl,HBE.out⟩
  | true=>
   cases ec with
   |succ ec=>
    have D12:Hid (decide (((ec+1:Nat):Int)≠0)=true):=decide_eq_true (by omega)
    go_upto_region 5 with (fail)
    refine rgQ [0,1,2,3,4,5,6,7,8,9,10,11,12,13,14,15,16,17,18,19,20,21,22,23,24] [] E5 rfl fun hw=>?_
    refine qw 12 hw ?_
    refine qv rfl (fun u hu=>neErr_op u D12.out rfl rfl) hw ?_
    refine qw 12 hw ?_
    refine enP fun u42 EX41=>?_
    go_upto_region 6 with (fail)
    refine rgQ [0,1] [] EX41 rfl fun hw=>?_
    refine qw 2 hw ?_
    refine enP fun u45 EX44=>?_
    have HBE:=hD (EnvX.bel EX44.out)
    go_wp2
    go_ret
    exact⟨rfl,HBE.out⟩
   | zero=>
    have D12:Hid (decide (((0:Nat):Int)≠0)=false):=decide_eq_false (by omega)
    by_cases cneg:i<0
    case pos=>
     have D16:Hid (decide (i<0)=true):=decide_eq_true cneg
     clear cneg
     go_upto_region 5 with (fail)
     refine rgQ [0,1,2,3,4,5,6,7,8,9,10,11,12,13,14,15,16,17,18,19,20,21,22,23,24] [] E5 rfl fun hw=>?_
     refine qw 12 hw ?_
     refine qv rfl (fun u hu=>neErr_op u D12.out rfl rfl) hw ?_
     refine qw 3 hw ?_
     refine qv rfl (fun u hu=>ltZ_op u D16.out rfl rfl) hw ?_
     refine qw 8 hw ?_
     refine enP fun u42 EX41=>?_
     go_upto_region 6 with (fail)
     refine rgQ [0,1] [] EX41 rfl fun hw=>?_
     refine qw 2 hw ?_
     refine enP fun u45 EX44=>?_
     have HBE:=hD (EnvX.bel EX44.out)
     go_wp2
     go_ret
     exact⟨rfl,HBE.out⟩
    have D16:Hid (decide (i<0)=false):=decide_eq_false cneg
    have HSB:Hid (IntKind.i64.wrap ((m.n:Int) - 1)=(m.n:Int) - 1):=by have:=HN63.out;show _=_;rw[IntKind.wrap_i64];omega
    by_cases cbig:(m.n:Int) - 1≤i
    case pos=>
     have D23:Hid (decide ((m.n:Int) - 1≤i)=true):=decide_eq_true cbig
     clear cneg cbig
     go_upto_region 5 with (fail)
     refine rgQ [0,1,2,3,4,5,6,7,8,9,10,11,12,13,14,15,16,17,18,19,20,21,22,23,24] [] E5 rfl fun hw=>?_
     refine qw 12 hw ?_
     refine qv rfl (fun u hu=>neErr_op u D12.out rfl rfl) hw ?_
     refine qw 3 hw ?_
     refine qv rfl (fun u hu=>ltZ_op u D16.out rfl rfl) hw ?_
     refine qw 4 hw ?_
     refine qv rfl (fun u hu=>len_op underlying22 HN63.out u rfl) hw ?_
     refine qv rfl (fun u hu=>subZ_op u HSB.out rfl rfl) hw ?_
     refine qv rfl (fun u hu=>geZ_op u D23.out rfl rfl) hw ?_
     refine qo rfl hw ?_
     refine enP fun u42 EX41=>?_
     go_upto_region 6 with (fail)
     refine rgQ [0,1] [] EX41 rfl fun hw=>?_
     refine qw 2 hw ?_
     refine enP fun u45 EX44=>?_
     have HBE:=hD (EnvX.bel EX44.out)
     go_wp2
     go_ret
     exact⟨rfl,HBE.out⟩
    have D23:Hid (decide ((m.n:Int) - 1≤i)=false):=decide_eq_false cbig
    obtain⟨k,rfl⟩:=Int.eq_ofNat_of_zero_le (show 0≤i by omega)
    have hkn:k+1<m.n:=by omega
    have HKN:Hid (k+1<m.n):=hkn
    have HK0:Hid (k<m.n):=by show _<_;omega
    have hkl:k<m.l.length:=by rw[HL.out];omega
    have hkl2:k+1<m.l.length:=by rw[HL.out];exact hkn
    obtain⟨ad,hA,hld⟩:=HKM.out.loadsAll (show 0<m.l.length by omega)
    have hld1:=hld k hkl
    have hld2:=hld (k+1) hkl2
    have hoy:=(HKM.out.m.get hkl).h
    have hoz:=(HKM.out.m.get hkl2).h
    have hsp:(checkC (m.r.set k b.r)).2=0→idH b.h=idH (atB m.r k).h∧(atB m.r (k+1)).h.prev=idH b.h:=fun h=>spoil (by rw[HCE.out]) (by rw[m.r_len];exact hkl2) h
    rw[←RowM.at_h hkl,←RowM.at_h hkl2]at hsp
    obtain⟨y,hy⟩: ∃y,m.l.getD k noBlkM=y:=⟨_,rfl⟩
    obtain⟨x,hx⟩: ∃x,m.l.getD (k+1) noBlkM=x:=⟨_,rfl⟩
    rw[hy]at hld1 hoy hsp
    rw[hx]at hld2 hoz hsp
    obtain⟨r3,e3,hc3⟩: ∃r3 e3,checkC (m.r.set k b.r)=(r3,e3):=⟨_,_,rfl⟩
    rw[hc3]at hsp
    have HC3:=hD hc3
    have HAD:=hD hA
    have HLY:=hD hld1
    have HLX:=hD hld2
    have HOY:Hid (okHd y.h):=hoy
    have HOX:Hid (okHd x.h):=hoz
    have HSP:Hid (e3=0→idH b.h=idH y.h∧x.h.prev=idH b.h):=hsp
    have HNR:Hid (midRowR (m.r.set k b.r)):=⟨by rw[List.length_set];exact HMR.out.1,fun q hq=>by
     rcases List.mem_or_eq_of_mem_set hq with h|h
     · exact HMR.out.2 q h
     · rw[h];exact(midBlk_iff b).1 HMB.out⟩
    have HFL:Hid ((m.l.map blkC).flatten.length=m.n*137):=rowBk_own HKM.out
    have HON:Hid (∀v∈(m.l.map blkC).flatten,v.oneCell'=true):=fun v hv=>by
     obtain⟨y,hy,hv⟩:=List.mem_flatten.1 hv
     obtain⟨t,ht,rfl⟩:=List.mem_map.1 hy
     exact blkC_one t v hv
    have HS2:Hid (m.n≤2000000):=by have:=HFM.out rfl;have:=HL.out;show _≤_;omega
    clear cneg cbig hkn hkl hkl2 hA hld hld1 hld2 hoy hoz hsp hy hx hc3
    go_upto_region 5 with (fail)
    refine rgQ [0,1,2,3,4,5,6,7,8,9,10,11,12,13,14,15,16,17,18,19,20,21,22,23,24] [] E5 rfl fun hw=>?_
    refine qw 12 hw ?_
    refine qv rfl (fun u hu=>neErr_op u D12.out rfl rfl) hw ?_
    refine qw 3 hw ?_
    refine qv rfl (fun u hu=>ltZ_op u D16.out rfl rfl) hw ?_
    refine qw 4 hw ?_
    refine qv rfl (fun u hu=>len_op underlying22 HN63.out u rfl) hw ?_
    refine qv rfl (fun u hu=>subZ_op u HSB.out rfl rfl) hw ?_
    refine qv rfl (fun u hu=>geZ_op u D23.out rfl rfl) hw ?_
    refine qo rfl hw ?_
    refine enP fun u42 EX41=>?_
    go_upto_region 7 with (fail)
    refine rgQ [0] [1,2] EX41 rfl fun hw=>?_
    refine qo rfl hw ?_
    refine wpG_nil<|(hOp_fresh (R:=FreshR 37 137 m.n (m.l.map blkC).flatten) (M0:=[(w.heap.size,oc (blkA b) 37)]) rfl rfl (fun _ h=>h) (fun u hu=>FAt_appC elBlkC HFL.out HON.out (HKM.out.m.cells.up (EnvX.bel hu)) HS2.out rfl) ?_)
    rintro x7 N7 hF hf he44;intro K' hK';go_big_quiet_op;go_big_quiet_on
    obtain⟨gm,cm,cur,rfl,hN7,hc1,hc2,hc3,hc4⟩|⟨_,_,h0,_⟩:=hF
    case inr=>exact absurd HK0.out (by rw[h0];exact Nat.not_lt_zero _)
    have HNE:=hD hN7
    have HCU:=hD (And.intro hc1 (And.intro hc2 (And.intro hc3 hc4)))
    have HGM:=hD hf
    clear hN7 hc1 hc2 hc3 hc4
    clear hf
    refine phE [2] [] he44 fun hw=>?_
    refine qo rfl hw ?_
    refine enP fun u47 EX46=>?_
    have E8:Hid (EnvX w u47 [(gm,oc (cur) 37),(w.heap.size,oc (blkA b) 37)]):=by have h:=EX46.out;rw[HNE.out]at h;exact h
    have HGN:Hid (w.heap.size≤gm∧gm≠w.heap.size):=by have h:=HGM.out (gm,oc cur 37) (by rw[HNE.out];exact mH);exact⟨h.1,fun e=>h.2 _ mH e.symm⟩
    have HRM:Hid (k*137+137≤cur.size):=by
     have h:=HCU.out
     have h2:=Nat.mul_le_mul_right 137 (show k+1≤cm by have:=HK0.out;omega)
     rw[Nat.add_mul,Nat.one_mul]at h2
     show _≤_
     rw[h.2.2.1]
     omega
    clear EX46 HNE HGM
    go_upto_region 8 with (fail)
    refine rgQ [0,1,2,3] [4] E8 rfl fun hw=>?_
    refine qw 2 hw ?_
    refine ql rfl (mT mH) HKb.out hw ?_
    refine qv (v:= .pointer (some ⟨gm,k*137,none⟩)) rfl (fun u hu=>idx0_op (i:=k) underlying22 aggBlk.size HK0.out u rfl rfl) hw ?_
    refine wpG_nil<|(hOp_putAt rfl (gm) (k*137) (.agg (blkA b)) rfl rfl HGN.out.1 37 (cur) (setK cur (k*137) b) mH (blk_putK HKb.out HRM.out).1 (blk_putK HKb.out HRM.out).2.1 (blk_putK HKb.out HRM.out).2.2.1 (blk_putK HKb.out HRM.out).2.2.2 [(gm,oc (setK cur (k*137) b) 37),(w.heap.size,oc (blkA b) 37)] (mA ⟨.inl rfl,fun y hy=> .inr (by cases mS.1 hy;exact⟨mT mH,fun e=>HGN.out.2 e.symm⟩)⟩) ?_)
    refine fun _=>enL fun u71 EX70=>?_
    go_upto_region 9 with (fail)
    refine rgQ [0] [1,2,3,4,5,6,7] EX70 rfl fun hw=>?_
    refine qo rfl hw ?_
    refine wpG_nil<|(hOp_turn (gd:=none) (R:=fun x M'=> ∃tq N,x= .tuple #[.agg (tipA tq), .int .i64 (e3:Int)]∧M'=N++[(gm,oc (setK cur (k*137) b) 37),(w.heap.size,oc (blkA b) 37)]∧KeptB w N (IsTip (r3) tq)∧ ∃vq,IsTip (r3) tq vq) rfl rfl rfl rfl (fun u hu=>OUpon_call (fid:=13) (xs:= #[.tmp 59]) (args:= #[.slice (some ⟨gm,0,none⟩) m.n cm]) rfl func13 rfl rfl u (tip_turn (by have h:=HH.out.check ⟨m.l.set k b,some ⟨gm,0,none⟩,m.n,cm⟩ u (row_setK hu mH HL.out HCU.out.1 HCU.out.2.1 HCU.out.2.2.1 HCU.out.2.2.2 HK0.out (fun t ht=>(HKM.out.m.each t ht).up (EnvX.bel hu)) (HKB.out.up (EnvX.bel hu))) (by rw[show RowM.r ⟨m.l.set k b,some ⟨gm,0,none⟩,m.n,cm⟩=m.r.set k b.r from rsB_set _ _ _];exact HNR.out) (HT.out.below (EnvX.bel hu));rw[show RowM.r ⟨m.l.set k b,some ⟨gm,0,none⟩,m.n,cm⟩=m.r.set k b.r from rsB_set _ _ _,HC3.out]at h;exact h) hu)) ?_)
    rintro _ _ ⟨u13,N13,rfl,rfl,hk13,hv13⟩ he73;intro K' hK';go_big_quiet_op;go_big_quiet_on
    have HT13:=hD hk13
    have HV13:=hD hv13
    have HK13:Hid (lenH u13.b.h):=by obtain⟨v,hv⟩:=HV13.out;exact hv.2.b.h.len
    clear hk13 hv13
    refine phE [2,3,4] [5,6,7] he73 fun hw=>?_
    refine qw 3 hw ?_
    refine wpG_nil<|qn rfl (new_tip _) fun g13 HGg13 he75=>?_
    change lexH _ _ _ _ _ _ ((g13,oc (tipA noTipM) 41)::(N13++((gm,oc (setK cur (k*137) b) 37)::((w.heap.size,oc (blkA b) 37)::[]))))
    refine(sh rfl HGg13 (infoTip _ (tipA_size HK13.out)) (tip_sizes HK13.out) (tipA_one _) ?_)
    intro he76
    refine phE [7] [] he76 fun hw=>?_
    refine qo rfl hw ?_
    refine enP fun u79 EX78=>?_
    have E10:Hid (EnvX w u79 [(w.heap.size,oc (blkA b) 37)]):=EnvX.sub EX78.out (fun y hy=>by cases mS.1 hy;exact(mT (mR (mT mH))))
    clear EX78
    obtain⟨ib,hib⟩: ∃ib,idH b.h=ib:=⟨_,rfl⟩
    have HIB:=hD hib
    have HIS:Hid (isId ib):=by rw[←hib];exact idH_id _
    rw[hib]at HSP
    have HEQ:Hid (eqL ib ib=true):=by show _=_;unfold eqL;exact decide_eq_true rfl
    clear hib
    cases e3 with
    |succ e3=>
     have D1:Hid (decide (((e3+1:Nat):Int)≠0)=true):=decide_eq_true (by omega)
     go_upto_region 10 with (fail)
     refine rgK [0,1,2,3,4,5,6,7,8,9,10,11,12,13,14,15,16,17,18,19,20,21,22,23,24,25,26,27] 0 E10 rfl fun hw=>?_
     refine qo rfl hw ?_
     refine qv rfl (fun u hu=>neErr_op u D1.out rfl rfl) hw ?_
     refine qw 26 hw ?_
     refine eH fun u102 EX101=>?_
     have HBE:=hD (EnvX.bel EX101.out)
     go_wp2
     go_ret
     exact⟨rfl,HBE.out⟩
    |zero=>
     have D1:Hid (decide (((0:Nat):Int)≠0)=false):=decide_eq_false (by omega)
     have HS1:Hid (idH y.h=ib):=(HSP.out rfl).1.symm
     have HS3:Hid (x.h.prev=ib):=(HSP.out rfl).2
     have HAD2:Hid (IntKind.i64.wrap ((k:Int)+1)=((k+1:Nat):Int)):=by have:=HKN.out;have:=HN63.out;show _=_;rw[IntKind.wrap_i64];omega
     go_upto_region 10 with (fail)
     refine rgK [0,1,2,3,4,5,6,7,8,9,10,11,12,13,14,15,16,17,18,19,20,21,22,23,24,25,26,27] 0 E10 rfl fun hw=>?_
     refine qo rfl hw ?_
     refine qv rfl (fun u hu=>neErr_op u D1.out rfl rfl) hw ?_
     refine qw 2 hw ?_
     refine qv rfl (fun u hu=>load_any_op u (loads_hd HKb.out (box_blk_hd hu mH HKb.out)).1 rfl) hw ?_
     refine qc (args:= #[hdV b.h]) (v:=idv ib) rfl func32 (fun u hu=>by have h:=hid_any b.h u HOb.out (HT.out.below (EnvX.bel hu));rw[HIB.out]at h;exact h) hw ?_
     refine qw 2 hw ?_
     refine qv (v:= .pointer (some (ad.add (k*137)))) rfl (fun u hu=>by rw[HAD.out];exact idxSl_op (i:=k) underlying22 aggBlk.size HK0.out u rfl rfl) hw ?_
     refine qv (v:= .pointer (some ((ad.add (k*137)).add 0))) rfl (fun u hu=>fieldBlk_op (k:=0) (off:=0) (ad:=(ad.add (k*137))) rfl u rfl) hw ?_
     refine qv rfl (fun u hu=>load_any_op u (HLY.out u (nl hu)).hd rfl) hw ?_
     refine qc (args:= #[hdV y.h]) (v:=idv ib) rfl func32 (fun u hu=>by have h:=hid_any y.h u HOY.out (HT.out.below (EnvX.bel hu));rw[HS1.out]at h;exact h) hw ?_
     refine qv rfl (fun u hu=>eqlb_op HIS.out.1 HIS.out.1 HEQ.out u rfl rfl) hw ?_
     refine qw 3 hw ?_
     refine qv rfl (fun u hu=>addZ_op u HAD2.out rfl rfl) hw ?_
     refine qv (v:= .pointer (some (ad.add ((k+1)*137)))) rfl (fun u hu=>by rw[HAD.out];exact idxSl_op (i:=(k+1)) underlying22 aggBlk.size HKN.out u rfl rfl) hw ?_
     refine qv (v:= .pointer (some ((ad.add ((k+1)*137)).add 0))) rfl (fun u hu=>fieldBlk_op (k:=0) (off:=0) (ad:=(ad.add ((k+1)*137))) rfl u rfl) hw ?_
     refine qv (v:= .pointer (some (((ad.add ((k+1)*137)).add 0).add 1))) rfl (fun u hu=>fieldHd_op (k:=1) (off:=1) (ad:=(ad.add ((k+1)*137)).add 0) rfl u rfl) hw ?_
     refine qv (v:=idv ib) rfl (fun u hu=>load_any_op u (by have h:=(HLX.out u (nl hu)).prev;rwa[HS3.out]at h) rfl) hw ?_
     refine qf rfl hw ?_
     refine qv rfl (fun u hu=>load_any_op u (loads_hd HKb.out (box_blk_hd hu mH HKb.out)).1 rfl) hw ?_
     refine qc (args:= #[hdV b.h]) (v:=idv ib) rfl func32 (fun u hu=>by have h:=hid_any b.h u HOb.out (HT.out.below (EnvX.bel hu));rw[HIB.out]at h;exact h) hw ?_
     refine qv rfl (fun u hu=>eqlb_op HIS.out.1 HIS.out.1 HEQ.out u rfl rfl) hw ?_
     refine qw 3 hw ?_
     refine eH fun u102 EX101=>?_
     have HBE:=hD (EnvX.bel EX101.out)
     go_wp2
     go_ret
     exact⟨rfl,HBE.out⟩
end Go.Proofs.YtojmeodoenkapaaGreatDoor
namespace Go.Proofs.YtojmeodoenkapaaGreatDoor.chainSpoiled
set_option maxRecDepth 8000
open Go.ChangeShapes Go.WideShapes Go.ChangeAt Go.RowKit
theorem contract(H:Type)(enc:TypeId × Value→H)(W:World)(base:Nat)(args:Array Value)(ds gs:List (DataW H))(before:List MemPlace)
  (hval: ∀(j:Nat) t v,Tryz.f7.params[j]?=some t→args[j]?=some v→Value.okWide Tryz.prog W .any base t v)
  (hW:DataW.Whole enc Tryz.prog Tryz.f7.params.toList Rows.chainSpoiledSpec.vars false W args.toList ds gs before) (hL:laidMetH Tryz.prog Rows.chainSpoiledUptoRow.laid W) (hK:Rows.uptoSmall H (ds++gs)=true):
  Calls Tryz.prog 7 args W fun e W'=> ∃v,e= .returned v∧Rows.chainSpoiledSpec.post enc Tryz.prog Tryz.f7 false true false false W args v W':=by
 have hW':=hW
 obtain⟨p,q,hA0,hV,rfl,hfz,hnd⟩:=hW
 have hA:DataW.TrodAll enc Tryz.prog W 0 (fun _=>true) true Tryz.f7.params.toList args.toList ds p:=hA0
 rw[Tryz.params7]at hA hval
 obtain⟨v0,vs0,d0,ds0,p0,q0,hargs,rfl,rfl,h0,r0⟩:=trodAll_cons hA
 obtain⟨v1,vs1,d1,ds1,p1,q1,rfl,rfl,rfl,h1,r1⟩:=trodAll_cons r0
 obtain⟨v2,vs2,d2,ds2,p2,q2,rfl,rfl,rfl,h2,r2⟩:=trodAll_cons r1
 obtain⟨rfl,rfl,rfl⟩:=trodAll_nil r2
 obtain rfl:args= #[v0,v1,v2]:=by cases args;simp_all
 obtain⟨rfl,rfl⟩:=trodVars_none hV
 have hB:Rows.uptoBulkAll [d0,d1,d2]≤1048576:=of_decide_eq_true hK
 have lt0: ∀x∈p0,x.block<W.heap.size:=by obtain⟨m,hm⟩:=h0;exact DataW.trod_lt m _ _ _ hm
 obtain⟨x0,rfl,kx0,mx0⟩:=open_blksB (hval 0 22 v0 rfl rfl) h0 (Nat.le_trans (bulk_part mH) hB)
 obtain⟨x1,rfl,rfl,rfl,wx1⟩:=open_int underlying3 (hval 1 3 v1 rfl rfl) h1
 have lt2: ∀x∈p2,x.block<W.heap.size:=by obtain⟨m,hm⟩:=h2;exact DataW.trod_lt m _ _ _ hm
 obtain⟨x2,rfl,kx2,mx2⟩:=open_blkB (hval 2 37 v2 rfl rfl) h2 (Nat.le_trans (bulk_part (mT (mT mH))) hB)
 clear hA0
 refine(law_chspoiled chainC x0 x1 x2 W kx0 mx0 kx2 mx2 (bounds_i64 wx1) (tables_of_laid hL)).mono fun e W'⟨he,bel⟩=>?_
 subst he
 exact⟨_,rfl,_,_,_,[],_,[],hW',trodAll_mk1 (shut_bool underlying4 _),(trodAll_cons_mk (Below.trod laidOut (by kernel_rfl) (of_decide_eq_true (by kernel_rfl)) h0 bel lt0) (trodAll_cons_mk (shut_int underlying3 wx1) (trodAll_cons_mk (Below.trod laidOut (by kernel_rfl) (of_decide_eq_true (by kernel_rfl)) h2 bel lt2) trodAll_mk0))),rfl,bel.frame _,fun h=>by cases h⟩
def start:Array Value:= #[.slice none 0 0, .int .i64 0,zeroB]
theorem reads(os:Os){H:Type}(enc:TypeId × Value→H): ∃places,DataW.whole enc Tryz.prog ((laidWorld os).forCall (fun _ _=>0) ⟨#[],start,[]⟩).memory Tryz.f7.params.toList Rows.chainSpoiledSpec.vars false start.toList 8=some ([.nil, .lit (.int .i64 0),zeroBD],[],places):=
 ⟨[],by kernel_rfl⟩
theorem lifted(os:Os)(started:os.Started)(H:Type)(enc:TypeId × Value→H)(F:Stop.Interp):
  ReturnsInHanded {} Tryz.checked os 7 .any ((Rows.OpenSpec.upto Rows.chainSpoiledSpec).preRow enc Tryz.prog Tryz.f7 Rows.chainSpoiledUptoRow.domain false Rows.chainSpoiledUptoRow.laid) (((Rows.OpenSpec.upto Rows.chainSpoiledSpec).at F).post enc Tryz.prog Tryz.f7 false true false false):=by
 obtain⟨places,hx⟩:=reads os enc
 refine returnsInHanded_of_row (C:=Tryz.checked) (s:=Rows.OpenSpec.upto Rows.chainSpoiledSpec) own started (by kernel_rfl) func7
  (witness_row_at (enc:=enc) (C:=Tryz.checked) false (laidWorld os) start rfl (by kernel_rfl) (by kernel_rfl) (by kernel_rfl)
   (OpenSpec.preRow_of_cond 8 hx (by kernel_rfl) (fun k hk=>by cases hk;kernel_rfl) (by kernel_rfl) (laidMet_of_run' 8 (by kernel_rfl) (by kernel_rfl)))) ?_
 intro W base args ds gs before hval hW _ hcond _ hL _ _
 exact contract H enc W base args ds gs before hval hW hL (hcond _ rfl)
theorem said:Rows.ChainSpoiledUptoSaid:=
 OpenClaim.holds_of_cond 7 Tryz.f7 rfl rfl rfl rfl rfl rfl rfl ⟨rfl,rfl,rfl,rfl,rfl⟩ rfl rfl rfl rfl rfl (by kernel_rfl) func7 (by kernel_rfl)
  (of_decide_eq_true (by kernel_rfl)) (by unfold Func.isWrapper;first|(rw[if_pos (by decide+kernel)];kernel_rfl)|(rw[if_neg (by decide+kernel)];exact⟨rfl,rfl⟩))
  (fun os started H enc _ F=>by rw[OpenClaim.pre_eq_preRow];exact lifted os started H enc F)
theorem plain(f:FuncId)(fn:Func)(hf:Tryz.pinned.checked.prog.funcNamed "stepladder/stepladderlaw12.ChainSpoiled" =some f)(hfn:Tryz.pinned.checked.prog.funcs[f]?=some fn):
   false=Tryz.pinned.checked.prog.looks []∧ ∀(j:Nat) t,fn.params[j]?=some t→Tryz.pinned.checked.prog.wantsStandIn t=false:=by
 obtain rfl:f=7:=Option.some.inj ((show Tryz.prog.funcNamed "stepladder/stepladderlaw12.ChainSpoiled" =some 7 by kernel_rfl).symm.trans hf)|>.symm
 obtain rfl:fn=Tryz.f7:=(Option.some.inj (func7.symm.trans hfn)).symm
 refine⟨by kernel_rfl,fun j t ht=>?_⟩
 rw[Tryz.params7]at ht
 have hm:t=22∨t=3∨t=37:=by simpa using Array.mem_of_getElem? ht
 rcases hm with rfl|rfl|rfl
 · exact(show Tryz.prog.wantsStandIn 22=false by kernel_rfl)
 · exact(show Tryz.prog.wantsStandIn 3=false by kernel_rfl)
 · exact(show Tryz.prog.wantsStandIn 37=false by kernel_rfl)
theorem card:Rows.ChainSpoiledUptoCardSaid:=
 Claim7.holds_tied_plain_at .later [] _ _ _ _ said (fun _ h=>by cases h) (by kernel_rfl) (fun _ h=>by cases h) chainSpoiledUpto_row_tie rfl ⟨rfl,rfl⟩ (by kernel_rfl) rfl plain (by kernel_rfl)
end Go.Proofs.YtojmeodoenkapaaGreatDoor.chainSpoiled
