/-
  PROVED: the law stepladderlaw12.ChainLinks answers true for every input whose reading is of bulk at most 1048576, and leaves its arguments as they were.
  Conditions: the two package-level tables of package sha hold at the call what their initialisers lay; the card ties that to the text of the program (a pruned copy of the project: the packages that the roots of this seat load).
-/
import Derived.Test.YtojmeodoenkapaaGreatDoorYk
open Go.Proofs.Tryz
namespace Go.Proofs.YtojmeodoenkapaaGreatDoor
set_option maxRecDepth 20000
set_option maxHeartbeats 8000000
set_option linter.unusedVariables false
set_option linter.unusedSimpArgs false
theorem step_get{x:List Int}{r:List (List Int)}{id:List Int}{k j:Nat}(h1:1≤j)(h2:j≤k):(stepL x r id k).getD j []=id:=by
 obtain⟨i,rfl⟩: ∃i,j=i+1:=⟨j- 1,by omega⟩
 unfold stepL
 rw[gD,List.getElem?_cons_succ,List.getElem?_append_left (by simp;omega),List.getElem?_replicate,if_pos (by omega)]
 rfl
theorem step_above{x:List Int}{r:List (List Int)}{id:List Int}{k j:Nat}(h:k<j):(stepL x r id k).getD j []=(x::r).getD j []:=by
 obtain⟨i,rfl⟩: ∃i,j=i+1:=⟨j- 1,by omega⟩
 unfold stepL
 rw[gD,gD,List.getElem?_cons_succ,List.getElem?_cons_succ,List.getElem?_append_right (by simp;omega),List.getElem?_drop]
 congr 2
 simp only[List.length_replicate]
 omega
section
variable {l:List BlkR}
theorem ch_list(h:(checkC l).2=0){k:Nat}(h2:k+1<l.length):(atB l (k+1)).l=nextT (atB l k).l (idH (atB l k).h) (levelH (atB l k).h):=by
 have g:=(push_ok (ch_push h (k:=k+1) (by omega) h2)).2.2.1
 rw[g]
 unfold linksK
 rw[ch_last h (by omega)]
def lastB(l:List BlkR)(n:Int):Nat→Nat
  |0=>0
  |k+1=>if 1≤k∧n≤levelH (atB l k).h∧0<n then k else lastB l n k
theorem ch_lead(h:(checkC l).2=0): ∀{i:Nat},i+1<l.length→ ∃x r,(atB l (i+1)).l=x::r∧r.length+1≤32∧x=idH (atB l 0).h∧
  ∀n:Nat,n≤31→(r.length<n→lastB l n (i+1)=0)∧(n≤r.length→(x::r).getD n []=idH (atB l (lastB l n (i+1))).h∧(n=0∨0<lastB l n (i+1)))
 |0,h2=>by
  have e:(atB l 1).l=[idH (atB l 0).h]:=by
    rw[ch_list h h2,show (atB l 0).l=[]by rw[(ch_first h).2.1];rfl]
    rfl
  refine⟨_,[],e,by decide,rfl,fun n hn=>⟨fun _=>rfl,fun h0=>?_⟩⟩
  obtain rfl:n=0:=Nat.le_zero.1 h0
  exact⟨rfl, .inl rfl⟩
 |i+1,h2=>by
  obtain⟨x,r,e,hr,hx,H⟩:=ch_lead h (i:=i) (by omega)
  have e2:(atB l (i+1+1)).l=stepL x r (idH (atB l (i+1)).h) (lvN (levelH (atB l (i+1)).h)):=by
    rw[ch_list h h2,e,next_some hr]
  have hk:=lvN_le (levelH (atB l (i+1)).h)
  have hv:=ch_level h (k:=i+1) (by omega)
  have hkd: ∀n:Nat,n≤31→((n:Int)≤levelH (atB l (i+1)).h↔n≤lvN (levelH (atB l (i+1)).h)):=fun n hn=>by
    unfold lvN
    omega
  generalize hkk:lvN (levelH (atB l (i+1)).h)=k at *
  have hrl:(List.replicate k (idH (atB l (i+1)).h)++r.drop k).length=k+(r.length- k):=by
    rw[lA,List.length_replicate,List.length_drop]
  refine⟨x,List.replicate k (idH (atB l (i+1)).h)++r.drop k,e2,by rw[hrl];omega,hx,fun n hn=>?_⟩
  have hlast:lastB l n (i+1+1)=if n≤k∧0<n then i+1 else lastB l n (i+1):=by
    show (if 1≤i+1∧(n:Int)≤levelH (atB l (i+1)).h∧0<(n:Int)then i+1 else lastB l n (i+1))=_
    by_cases c:n≤k∧0<n
    · rw[if_pos c,if_pos ⟨by omega,(hkd n hn).2 c.1,by omega⟩]
    · rw[if_neg c,if_neg (fun hh=>c ⟨(hkd n hn).1 hh.2.1,by omega⟩)]
  rw[hlast,hrl]
  by_cases c:n≤k∧0<n
  · rw[if_pos c]
    exact⟨fun _=>by omega,fun _=>⟨step_get (x:=x) (r:=r) c.2 c.1, .inr (by omega)⟩⟩
  · rw[if_neg c]
    rcases Nat.eq_zero_or_pos n with rfl|hn0
    · have H0:=(H 0 (by omega)).2 (Nat.zero_le _)
      exact⟨fun _=>by omega,fun _=>⟨H0.1, .inl rfl⟩⟩
    · have hkn:k<n:=by omega
      refine⟨fun _=>(H n hn).1 (by omega),fun _=>?_⟩
      have Hn:=(H n hn).2 (by omega)
      exact⟨(step_above hkn).trans Hn.1,Hn.2⟩
end
open Go.RowKit
theorem levels_at{m:RowM}{k:Nat}(hk:k<m.l.length):((levelsB m.r).map i64V)[k]?=some (.int .i64 (levelH (m.l.getD k noBlkM).h)):=by
 have hr:k<m.r.length:=by rw[m.r_len];exact hk
 unfold levelsB
 rw[List.getElem?_map,List.getElem?_map,gE hr,RowM.at_h hk]
 unfold atB
 rw[gD,gE hr]
 rfl
theorem take_at{cur:Array Value}{n k:Nat}{xs:List Value}(h:cur.toList.take (n*1)=xs)(hk:k<n){v:Value}(hv:xs[k]?=some v):cur[k*1]?=some v:=by
 rw[←h,List.getElem?_take_of_lt (by omega),Array.getElem?_toList]at hv
 rw[Nat.mul_one]
 exact hv
theorem ids_all{w:World}{A:Option Addr}{l:List (List Int)}(h:IdsIn w w.heap.size A l)(hl:isIds l)(h0:0<l.length): ∃ad,A=some ad∧ ∀k,k<l.length→ ∀u,EnvX w u []→(loadVar 26 (ad.add (k*32))).run Tryz.prog u= .ok (idv (l.getD k [])) u:=by
 obtain⟨ad,e,-⟩:=h.load hl h0
 refine⟨ad,e,fun k hk u hu=>?_⟩
 obtain⟨ad2,e2,hx⟩:=(h.up (EnvX.bel hu)).load hl hk
 have e3:ad2=ad:=Option.some.inj (e2.symm.trans e)
 rw[←e3]
 exact hx
theorem lastB_le(l:List BlkR)(n:Int): ∀k,lastB l n (k+1)≤k
 |0=>by
  show (if 1≤0∧n≤levelH (atB l 0).h∧0<n then 0 else 0)≤0
  split<;>exact Nat.le_refl _
 |k+1=>by
  show (if 1≤k+1∧n≤levelH (atB l (k+1)).h∧0<n then k+1 else lastB l n (k+1))≤k+1
  split
  · exact Nat.le_refl _
  · exact Nat.le_succ_of_le (lastB_le l n k)
theorem lastB_yes{l:List BlkR}{n:Int}{k:Nat}(h1:1≤k)(h2:n≤levelH (atB l k).h)(h3:0<n):lastB l n (k+1)=k:=by
 show (if 1≤k∧n≤levelH (atB l k).h∧0<n then k else lastB l n k)=k
 rw[if_pos ⟨h1,h2,h3⟩]
theorem lastB_no{l:List BlkR}{n:Int}{k:Nat}(h: ¬(n≤levelH (atB l k).h∧0<n)):lastB l n (k+1)=lastB l n k:=by
 show (if 1≤k∧n≤levelH (atB l k).h∧0<n then k else lastB l n k)=_
 rw[if_neg (fun h2=>h h2.2)]
theorem lastB_one(l:List BlkR)(n:Int):lastB l n 1=0:=Nat.le_zero.1 (lastB_le l n 0)
theorem law_chlinks(H:ChainC)(m:RowM)(i nn:Int)(w:World)(km:RowOk w m)(mm:midRowR m.r)(hi:I64 i)(hn:I64 nn)(ht:Tables w):
  Rz 6 #[rowV m, .int .i64 i, .int .i64 nn] w (.bool true):=by
 unfold Rz
 have HT:=hD ht
 have HH:=hD H
 have HKM:=hD km
 have HL:Hid (m.l.length=m.n):=km.l
 have HN63:Hid (m.n<9223372036854775808):=km.n63
 have HAW:Hid (Rt w 10 #[] (.bool true)):=fun u hu=>chawake_any H u (ht.below (EnvX.bel hu))
 have HMR:=hD mm
 have HI64:=hD hi
 have HFM:Hid (fewB m.l=true→m.l.length≤50):=fun h=>(fewB_mid h).2
 obtain⟨fm,hfm⟩: ∃fm,fewB m.l=fm:=⟨_,rfl⟩
 rw[hfm]at HFM
 have HFW:Hid (Rt w 11 #[.slice m.A m.n m.c] (.bool fm)):=fun u hu=>by have h:=fewrow_any m u (km.up (EnvX.bel hu));rw[hfm]at h;exact h
 have HCK:Hid (∀u,EnvX w u []→Calls Tryz.prog 13 #[.slice m.A m.n m.c] u fun e w'=>(∃t:TipM,e= .returned (.tuple #[tipV t, .int .i64 ((checkC m.r).2:Int)])∧IsTip (checkC m.r).1 t w')∧Below u.heap.size u w'):=fun u hu=>H.check m u (km.up (EnvX.bel hu)) mm (ht.below (EnvX.bel hu))
 obtain⟨rc,ec,hrc⟩: ∃rc ec,checkC m.r=(rc,ec):=⟨_,_,rfl⟩
 rw[hrc]at HCK
 simp only at HCK
 have HCE:=hD hrc
 have E1:Hid (EnvX w w []):=EnvX.start w
 clear ht H km mm hi hfm hrc
 unfold rowV
 go_enter func6,ntmps6
 go_upto_region 1 with (fail)
 refine rgQ [0,1] [] E1 rfl fun hw=>?_
 refine qc rfl func10 (fun u hu=>HAW.out u (nl hu)) hw ?_
 refine qo rfl hw ?_
 refine enP fun u3 EX2=>?_
 go_upto_region 2 with (fail)
 refine rgQ [0,1,2] [] EX2 rfl fun hw=>?_
 refine qo rfl hw ?_
 refine qc rfl func11 (fun u hu=>HFW.out u (nl hu)) hw ?_
 refine qo rfl hw ?_
 refine enP fun u6 EX5=>?_
 go_upto_region 3 with (fail)
 refine rgQ [0] [1,2,3,4,5,6,7] EX5 rfl fun hw=>?_
 refine qo rfl hw ?_
 refine wpG_nil<|(hOp_turn (gd:=none) (R:=fun x M'=> ∃tq N,x= .tuple #[.agg (tipA tq), .int .i64 (ec:Int)]∧M'=N∧KeptB w N (IsTip (rc) tq)∧ ∃vq,IsTip (rc) tq vq) rfl rfl rfl rfl (fun u hu=>OUpon_call (fid:=13) (xs:= #[.tmp 18]) (args:= #[.slice m.A m.n m.c]) rfl func13 rfl rfl u (tip_turn0 (HCK.out u (nl hu)) hu)) ?_)
 rintro _ N8 ⟨t8,_,rfl,rfl,hk8,hv8⟩ he8;intro K' hK';go_big_quiet_op;go_big_quiet_on
 have HT8:=hD hk8
 have HV8:=hD hv8
 have HK8:Hid (lenH t8.b.h):=by obtain⟨v,hv⟩:=HV8.out;exact hv.2.b.h.len
 clear hk8 hv8
 refine phE [2,3,4] [5,6,7] he8 fun hw=>?_
 refine qw 3 hw ?_
 refine wpG_nil<|qn rfl (new_tip _) fun g8 HGg8 he10=>?_
 change lexH _ _ _ _ _ _ ((g8,oc (tipA noTipM) 41)::N8)
 refine(sh rfl HGg8 (infoTip _ (tipA_size HK8.out)) (tip_sizes HK8.out) (tipA_one _) ?_)
 intro he11
 refine phE [7] [] he11 fun hw=>?_
 refine qo rfl hw ?_
 refine enP fun u14 EX13=>?_
 have E5:Hid (EnvX w u14 []):=EnvX.sub EX13.out (fun y hy=>by cases hy)
 clear EX13
 cases fm with
 |false=>
  go_upto_region 4 with (fail)
  refine rgQ [0,1,2,3,4,5,6,7,8,9,10,11,12,13,14,15,16,17,18,19,20,21,22,23,24,25,26,27] [] E5 rfl fun hw=>?_
  refine qw 28 hw ?_
  refine enP fun u37 EX36=>?_
  go_upto_region 5 with (fail)
  refine rgQ [0,1] [] EX36 rfl fun hw=>?_
  refine qw 2 hw ?_
  refine enP fun u40 EX39=>?_
  have HBE:=hD (EnvX.bel EX39.out)
  go_wp2
  go_ret
  exact⟨rfl,HBE.out⟩
 | true=>
  cases ec with
  |succ ec=>
   have D8:Hid (decide (((ec+1:Nat):Int)≠0)=true):=decide_eq_true (by omega)
   go_upto_region 4 with (fail)
   refine rgQ [0,1,2,3,4,5,6,7,8,9,10,11,12,13,14,15,16,17,18,19,20,21,22,23,24,25,26,27] [] E5 rfl fun hw=>?_
   refine qw 8 hw ?_
   refine qv rfl (fun u hu=>neErr_op u D8.out rfl rfl) hw ?_
   refine qw 19 hw ?_
   refine enP fun u37 EX36=>?_
   go_upto_region 5 with (fail)
   refine rgQ [0,1] [] EX36 rfl fun hw=>?_
   refine qw 2 hw ?_
   refine enP fun u40 EX39=>?_
   have HBE:=hD (EnvX.bel EX39.out)
   go_wp2
   go_ret
   exact⟨rfl,HBE.out⟩
  | zero=>
   have D8:Hid (decide (((0:Nat):Int)≠0)=false):=decide_eq_false (by omega)
   by_cases clow:i<1
   case pos=>
    have D12:Hid (decide (i<1)=true):=decide_eq_true clow
    clear clow
    go_upto_region 4 with (fail)
    refine rgQ [0,1,2,3,4,5,6,7,8,9,10,11,12,13,14,15,16,17,18,19,20,21,22,23,24,25,26,27] [] E5 rfl fun hw=>?_
    refine qw 8 hw ?_
    refine qv rfl (fun u hu=>neErr_op u D8.out rfl rfl) hw ?_
    refine qw 3 hw ?_
    refine qv rfl (fun u hu=>ltZ_op u D12.out rfl rfl) hw ?_
    refine qw 15 hw ?_
    refine enP fun u37 EX36=>?_
    go_upto_region 5 with (fail)
    refine rgQ [0,1] [] EX36 rfl fun hw=>?_
    refine qw 2 hw ?_
    refine enP fun u40 EX39=>?_
    have HBE:=hD (EnvX.bel EX39.out)
    go_wp2
    go_ret
    exact⟨rfl,HBE.out⟩
   have D12:Hid (decide (i<1)=false):=decide_eq_false clow
   by_cases cbig:(m.n:Int)≤i
   case pos=>
    have D18:Hid (decide ((m.n:Int)≤i)=true):=decide_eq_true cbig
    clear clow cbig
    go_upto_region 4 with (fail)
    refine rgQ [0,1,2,3,4,5,6,7,8,9,10,11,12,13,14,15,16,17,18,19,20,21,22,23,24,25,26,27] [] E5 rfl fun hw=>?_
    refine qw 8 hw ?_
    refine qv rfl (fun u hu=>neErr_op u D8.out rfl rfl) hw ?_
    refine qw 3 hw ?_
    refine qv rfl (fun u hu=>ltZ_op u D12.out rfl rfl) hw ?_
    refine qw 4 hw ?_
    refine qv rfl (fun u hu=>len_op underlying22 HN63.out u rfl) hw ?_
    refine qv rfl (fun u hu=>geZ_op u D18.out rfl rfl) hw ?_
    refine qw 9 hw ?_
    refine enP fun u37 EX36=>?_
    go_upto_region 5 with (fail)
    refine rgQ [0,1] [] EX36 rfl fun hw=>?_
    refine qw 2 hw ?_
    refine enP fun u40 EX39=>?_
    have HBE:=hD (EnvX.bel EX39.out)
    go_wp2
    go_ret
    exact⟨rfl,HBE.out⟩
   have D18:Hid (decide ((m.n:Int)≤i)=false):=decide_eq_false cbig
   by_cases cneg:nn<0
   case pos=>
    have D22:Hid (decide (nn<0)=true):=decide_eq_true cneg
    clear clow cbig cneg
    go_upto_region 4 with (fail)
    refine rgQ [0,1,2,3,4,5,6,7,8,9,10,11,12,13,14,15,16,17,18,19,20,21,22,23,24,25,26,27] [] E5 rfl fun hw=>?_
    refine qw 8 hw ?_
    refine qv rfl (fun u hu=>neErr_op u D8.out rfl rfl) hw ?_
    refine qw 3 hw ?_
    refine qv rfl (fun u hu=>ltZ_op u D12.out rfl rfl) hw ?_
    refine qw 4 hw ?_
    refine qv rfl (fun u hu=>len_op underlying22 HN63.out u rfl) hw ?_
    refine qv rfl (fun u hu=>geZ_op u D18.out rfl rfl) hw ?_
    refine qw 3 hw ?_
    refine qv rfl (fun u hu=>ltZ_op u D22.out rfl rfl) hw ?_
    refine qw 5 hw ?_
    refine enP fun u37 EX36=>?_
    go_upto_region 5 with (fail)
    refine rgQ [0,1] [] EX36 rfl fun hw=>?_
    refine qw 2 hw ?_
    refine enP fun u40 EX39=>?_
    have HBE:=hD (EnvX.bel EX39.out)
    go_wp2
    go_ret
    exact⟨rfl,HBE.out⟩
   have D22:Hid (decide (nn<0)=false):=decide_eq_false cneg
   by_cases chig:31<nn
   case pos=>
    have D26:Hid (decide (31<nn)=true):=decide_eq_true chig
    clear clow cbig cneg chig
    go_upto_region 4 with (fail)
    refine rgQ [0,1,2,3,4,5,6,7,8,9,10,11,12,13,14,15,16,17,18,19,20,21,22,23,24,25,26,27] [] E5 rfl fun hw=>?_
    refine qw 8 hw ?_
    refine qv rfl (fun u hu=>neErr_op u D8.out rfl rfl) hw ?_
    refine qw 3 hw ?_
    refine qv rfl (fun u hu=>ltZ_op u D12.out rfl rfl) hw ?_
    refine qw 4 hw ?_
    refine qv rfl (fun u hu=>len_op underlying22 HN63.out u rfl) hw ?_
    refine qv rfl (fun u hu=>geZ_op u D18.out rfl rfl) hw ?_
    refine qw 3 hw ?_
    refine qv rfl (fun u hu=>ltZ_op u D22.out rfl rfl) hw ?_
    refine qw 3 hw ?_
    refine qv rfl (fun u hu=>gtZ_op u D26.out rfl rfl) hw ?_
    refine qo rfl hw ?_
    refine enP fun u37 EX36=>?_
    go_upto_region 5 with (fail)
    refine rgQ [0,1] [] EX36 rfl fun hw=>?_
    refine qw 2 hw ?_
    refine enP fun u40 EX39=>?_
    have HBE:=hD (EnvX.bel EX39.out)
    go_wp2
    go_ret
    exact⟨rfl,HBE.out⟩
   have D26:Hid (decide (31<nn)=false):=decide_eq_false chig
   go_upto_region 4 with (fail)
   refine rgQ [0,1,2,3,4,5,6,7,8,9,10,11,12,13,14,15,16,17,18,19,20,21,22,23,24,25,26,27] [] E5 rfl fun hw=>?_
   refine qw 8 hw ?_
   refine qv rfl (fun u hu=>neErr_op u D8.out rfl rfl) hw ?_
   refine qw 3 hw ?_
   refine qv rfl (fun u hu=>ltZ_op u D12.out rfl rfl) hw ?_
   refine qw 4 hw ?_
   refine qv rfl (fun u hu=>len_op underlying22 HN63.out u rfl) hw ?_
   refine qv rfl (fun u hu=>geZ_op u D18.out rfl rfl) hw ?_
   refine qw 3 hw ?_
   refine qv rfl (fun u hu=>ltZ_op u D22.out rfl rfl) hw ?_
   refine qw 3 hw ?_
   refine qv rfl (fun u hu=>gtZ_op u D26.out rfl rfl) hw ?_
   refine qo rfl hw ?_
   refine enP fun u37 EX36=>?_
   obtain⟨k,rfl⟩: ∃k:Nat,i=((k+1:Nat):Int):=⟨(i- 1).toNat,by omega⟩
   obtain⟨nq,rfl⟩:=Int.eq_ofNat_of_zero_le (show 0≤nn by omega)
   have hn31:nq≤31:=by omega
   have HN31:=hD hn31
   have hkn:k+1<m.n:=by omega
   have HKN:=hD hkn
   have HK0:Hid (0<m.n):=by show _<_;omega
   have hkl:k+1<m.l.length:=by rw[HL.out];exact hkn
   have hkl0:0<m.l.length:=by omega
   have hkr:k+1<m.r.length:=by rw[m.r_len];exact hkl
   have hch:(checkC m.r).2=0:=by rw[HCE.out]
   obtain⟨x0,r,he,hr,hx0,hlead⟩:=ch_lead hch hkr
   have hld:=hlead nq hn31
   rw[←RowM.at_h hkl0]at hx0
   rw[←RowM.at_r hkl]at he
   obtain⟨ad,hA,hla⟩:=HKM.out.loadsAll hkl0
   have HAD:=hD hA
   have HLA:Hid (∀q,q<m.n→ ∀u,EnvX w u []→LoadsB u (ad.add (q*137)) (m.l.getD q noBlkM)):=fun q hq=>hla q (by rw[HL.out];exact hq)
   have HLE:Hid (∀q,q<m.n→m.l.getD q noBlkM=m.l.getD q noBlkM∧(atB m.r q).h=(m.l.getD q noBlkM).h):=fun q hq=>⟨rfl,(RowM.at_h (by rw[HL.out];exact hq)).symm⟩
   have hoy:=HKM.out.m.get hkl
   have HOZ:Hid (∀q,q<m.n→okHd (m.l.getD q noBlkM).h):=fun q hq=>(HKM.out.m.get (by rw[HL.out];exact hq)).h
   have HL0:Hid (∀u,EnvX w u []→LoadsB u (ad.add (0*137)) (m.l.getD 0 noBlkM)):=HLA.out 0 HK0.out
   have HLY:Hid (∀u,EnvX w u []→LoadsB u (ad.add ((k+1)*137)) (m.l.getD (k+1) noBlkM)):=HLA.out (k+1) hkn
   have HO0:Hid (okHd (m.l.getD 0 noBlkM).h):=HOZ.out 0 HK0.out
   obtain⟨z0,hz0⟩: ∃z0,m.l.getD 0 noBlkM=z0:=⟨_,rfl⟩
   rw[hz0]at HL0 HO0 hx0
   obtain⟨y,hy⟩: ∃y,m.l.getD (k+1) noBlkM=y:=⟨_,rfl⟩
   rw[hy]at HLY hoy he
   have he2:y.l=x0::r:=he
   have hyn:y.n1=r.length+1:=by rw[←hoy.l1,he2];rfl
   obtain⟨ai,hAi,hli⟩:=ids_all hoy.m1 hoy.o1 (by rw[he2];exact Nat.succ_pos _)
   rw[he2]at hli
   have HYN:=hD hyn
   have HAI:=hD hAi
   have HIX:Hid (∀q,q<y.n1→ ∀u,EnvX w u []→(loadVar 26 (ai.add (q*32))).run Tryz.prog u= .ok (idv ((x0::r).getD q [])) u):=fun q hq u hu=>hli q (by rw[hyn]at hq;exact hq) u hu
   have HI0:Hid (∀u,EnvX w u []→(loadVar 26 (ai.add (0*32))).run Tryz.prog u= .ok (idv x0) u):=fun u hu=>HIX.out 0 (by rw[hyn];omega) u hu
   have HX0:Hid (idH z0.h=x0):=hx0.symm
   have HS0:Hid (isId x0):=by rw[hx0];exact idH_id _
   have HNE0:Hid ((!eqL x0 x0)=false):=by show _=_;unfold eqL;rw[decide_eq_true rfl];rfl
   have HLD:=hD hld
   have HY63:Hid (y.n1<9223372036854775808):=by rw[hyn];show _<_;omega
   have HYP:Hid (0<y.n1):=by rw[hyn];exact Nat.succ_pos _
   have DY0:Hid (decide ((y.n1:Int)=0)=false):=decide_eq_false (by omega)
   have DNN:Hid (decide ((m.n:Int)≠(m.n:Int))=false):=decide_eq_false (fun h=>h rfl)
   have HLM:Hid (m.l.length≤50):=HFM.out rfl
   clear D8 clow cbig cneg chig hn31 hkn hkl hkl0 hkr hch he hr hx0 hlead hld hA hla hoy hz0 hy he2 hyn hAi hli HFM
   go_upto_region 6 with (fail)
   refine rgQ [0] [1,2] EX36 rfl fun hw=>?_
   refine qo rfl hw ?_
   refine wpG_nil<|qr (R:=FreshR 3 1 m.n ((levelsB m.r).map i64V)) rfl func22 (fun u hu=>callsR_fresh (HH.out.levels m u (HKM.out.up (EnvX.bel hu)) (by have:=HLM.out;omega) (HT.out.below (EnvX.bel hu)))) ?_
   rintro x4 N4 hF hf he39
   obtain⟨gv,cv,cur,rfl,hN4,-,-,-,hcur⟩|⟨_,_,h0,_⟩:=hF
   case inr=>exact absurd HK0.out (by rw[h0];exact Nat.not_lt_zero _)
   have HNE:=hD hN4
   have HCU:Hid (∀q,q<m.n→cur[q*1]?=some (.int .i64 (levelH (atB m.r q).h))):=fun q hq=>by rw[(HLE.out q hq).2];exact take_at hcur hq (levels_at (by rw[HL.out];exact hq))
   clear hN4 hcur
   clear hf
   refine phE [2] [] he39 fun hw=>?_
   refine qo rfl hw ?_
   refine enP fun u42 EX41=>?_
   have E9:Hid (EnvX w u42 [(gv,oc cur 3)]):=by have h:=EX41.out;rw[HNE.out]at h;exact h
   clear EX41 HNE
   go_upto_region 7 with (fail)
   refine rgK [0,1,2,3,4,5,6,7,8,9,10,11,12,13,14,15,16,17,18,19,20,21,22,23,24,25,26,27,28] 0 E9 rfl fun hw=>?_
   refine qo rfl hw ?_
   refine qv rfl (fun u hu=>len_op underlying52 HN63.out u rfl) hw ?_
   refine qo rfl hw ?_
   refine qv rfl (fun u hu=>len_op underlying22 HN63.out u rfl) hw ?_
   refine qv rfl (fun u hu=>neZ_op u DNN.out rfl rfl) hw ?_
   refine qw 3 hw ?_
   refine qv (v:= .pointer (some (ad.add ((k+1)*137)))) rfl (fun u hu=>by rw[HAD.out];exact idxSl_op (i:=(k+1)) underlying22 aggBlk.size HKN.out u rfl rfl) hw ?_
   refine qv (v:= .pointer (some ((ad.add ((k+1)*137)).add 135))) rfl (fun u hu=>fieldBlk_op (k:=1) (off:=135) (ad:=(ad.add ((k+1)*137))) rfl u rfl) hw ?_
   refine qv (v:= .slice (some ai) y.n1 y.c1) rfl (fun u hu=>load_any_op u (by have h:=(HLY.out u (nl hu)).ids;rwa[HAI.out]at h) rfl) hw ?_
   refine qv rfl (fun u hu=>len_op underlying35 HY63.out u rfl) hw ?_
   refine qv rfl (fun u hu=>eqlI_op u DY0.out rfl rfl) hw ?_
   refine qw 4 hw ?_
   refine qv (v:= .pointer (some (ad.add ((k+1)*137)))) rfl (fun u hu=>by rw[HAD.out];exact idxSl_op (i:=(k+1)) underlying22 aggBlk.size HKN.out u rfl rfl) hw ?_
   refine qv (v:= .pointer (some ((ad.add ((k+1)*137)).add 135))) rfl (fun u hu=>fieldBlk_op (k:=1) (off:=135) (ad:=(ad.add ((k+1)*137))) rfl u rfl) hw ?_
   refine qv (v:= .slice (some ai) y.n1 y.c1) rfl (fun u hu=>load_any_op u (by have h:=(HLY.out u (nl hu)).ids;rwa[HAI.out]at h) rfl) hw ?_
   refine qv rfl (fun u hu=>idxSl_op underlying35 aggIdT.size HYP.out u rfl rfl) hw ?_
   refine qv rfl (fun u hu=>load_any_op u (HI0.out u (nl hu)) rfl) hw ?_
   refine qo rfl hw ?_
   refine qv (v:= .pointer (some (ad.add (0*137)))) rfl (fun u hu=>by rw[HAD.out];exact idxSl_op (i:=0) underlying22 aggBlk.size HK0.out u rfl rfl) hw ?_
   refine qv (v:= .pointer (some ((ad.add (0*137)).add 0))) rfl (fun u hu=>fieldBlk_op (k:=0) (off:=0) (ad:=(ad.add (0*137))) rfl u rfl) hw ?_
   refine qv rfl (fun u hu=>load_any_op u (HL0.out u (nl hu)).hd rfl) hw ?_
   refine qc (args:= #[hdV z0.h]) (v:=idv x0) rfl func32 (fun u hu=>by have h:=hid_any z0.h u HO0.out (HT.out.below (EnvX.bel hu));rw[HX0.out]at h;exact h) hw ?_
   refine qv rfl (fun u hu=>neqb_op HS0.out.1 HS0.out.1 HNE0.out u rfl rfl) hw ?_
   refine qo rfl hw ?_
   refine eH fun u65 EX64=>?_
   go_upto_region 9 with (fail)
   refine rgQ [0] [] EX64 rfl fun hw=>?_
   refine qo rfl hw ?_
   refine enP fun u68 EX67=>?_
   go_upto_region 10 with (fail)
   refine rgQ [0] [] EX67 rfl fun hw=>?_
   refine qo rfl hw ?_
   refine enP fun u71 EX70=>?_
   go_upto_region 11 with (fail)
   go_loopw [12,13] (fun av iv u=> ∃j:Nat,1≤j∧j≤k+1∧av= .int .i64 (lastB m.r (nq:Int) j:Int)∧iv= .int .i64 (j:Int)∧Hid (EnvX w u [(gv,oc cur 3)])) (fun _ iv _=>k+1- (intOf iv).toNat)
   case atStart=>exact⟨1,by omega,by omega,by rw[lastB_one];rfl,rfl,EX70.out⟩
   case round=>
    obtain⟨j,hj1,hj,rfl,rfl,hinv⟩:=hrel
    have EK:=hD hinv.out
    clear hinv EX70 E9 E5
    obtain⟨la,hla⟩: ∃la,lastB m.r (nq:Int) j=la:=⟨_,rfl⟩
    have HLT:=hD hla
    by_cases hlt:j<k+1
    · have C2:Hid (decide ((j:Int)<((k+1:Nat):Int))=true):=decide_eq_true (by omega)
      have HJ:=hD (And.intro hj1 hlt)
      have HJN:Hid (j<m.n):=by have:=HKN.out;show _<_;omega
      have HLV:Hid (cur[j*1]?=some (.int .i64 (levelH (atB m.r j).h))):=HCU.out j HJN.out
      obtain⟨lv,hlv⟩: ∃lv,levelH (atB m.r j).h=lv:=⟨_,rfl⟩
      rw[hlv]at HLV
      have HLW:=hD hlv
      rw[hla]
      have HAJ:Hid (IntKind.i64.wrap ((j:Int)+1)=((j+1:Nat):Int)):=by have:=HJN.out;have:=HN63.out;show _=_;rw[IntKind.wrap_i64];omega
      clear hla hlv hlt hj hj1
      go_upto_region 11 with (fail)
      refine rgQ [0,1,2] [] EK rfl fun hw=>?_
      refine qw 2 hw ?_
      refine qv rfl (fun u hu=>ltZ_op u C2.out rfl rfl) hw ?_
      refine enP fun u94 EX93=>?_
      by_cases c1:(nq:Int)≤lv
      case neg=>
       have D5:Hid (decide ((nq:Int)≤lv)=false):=decide_eq_false c1
       have HST:Hid (Value.int .i64 (la:Int)= .int .i64 (lastB m.r (nq:Int) (j+1):Int)):=by show _=_;rw[lastB_no (by rw[HLW.out];exact(fun h=>c1 h.1)),HLT.out]
       clear c1
       go_upto_region 13 with (fail)
       refine rgQ [0,1,2,3,4,5,6,7,8,9] [] EX93 rfl fun hw=>?_
       refine qw 2 hw ?_
       refine qv (v:= .pointer (some ⟨gv,j*1,none⟩)) rfl (fun u hu=>idx0_op (i:=j) underlying52 intSize HJN.out u rfl rfl) hw ?_
       refine qv (v:= .int .i64 lv) rfl (fun u hu=>load_any_op u (run_load_one oneInt u (box_cell (k:=j*1) hu mH HLV.out)) rfl) hw ?_
       refine qo rfl hw ?_
       refine qv rfl (fun u hu=>geZ_op u D5.out rfl rfl) hw ?_
       refine qw 4 hw ?_
       refine enP fun u97 EX96=>?_
       go_upto_region 12 with (fail)
       refine rgQ [0,1,2] [] EX96 rfl fun hw=>?_
       refine qo rfl hw ?_
       refine qv rfl (fun u hu=>addZ_op u HAJ.out rfl rfl) hw ?_
       refine qo rfl hw ?_
       refine enP fun u100 EX99=>?_
       have hii:=HJ.out
       have hkn:=HKN.out
       have hn:=HN63.out
       go_wp2
       go_roundw
       case rel=>exact⟨j+1,by omega,by omega,HST.out,rfl,EX99.out⟩
       case measure=>simp[intOf];omega
      have D5:Hid (decide ((nq:Int)≤lv)=true):=decide_eq_true c1
      by_cases c2:(0:Int)<nq
      case neg=>
       have D8:Hid (decide ((0:Int)<nq)=false):=decide_eq_false c2
       have HST:Hid (Value.int .i64 (la:Int)= .int .i64 (lastB m.r (nq:Int) (j+1):Int)):=by show _=_;rw[lastB_no (by rw[HLW.out];exact(fun h=>c2 h.2)),HLT.out]
       clear c1 c2
       go_upto_region 13 with (fail)
       refine rgQ [0,1,2,3,4,5,6,7,8,9] [] EX93 rfl fun hw=>?_
       refine qw 2 hw ?_
       refine qv (v:= .pointer (some ⟨gv,j*1,none⟩)) rfl (fun u hu=>idx0_op (i:=j) underlying52 intSize HJN.out u rfl rfl) hw ?_
       refine qv (v:= .int .i64 lv) rfl (fun u hu=>load_any_op u (run_load_one oneInt u (box_cell (k:=j*1) hu mH HLV.out)) rfl) hw ?_
       refine qo rfl hw ?_
       refine qv rfl (fun u hu=>geZ_op u D5.out rfl rfl) hw ?_
       refine qw 2 hw ?_
       refine qv rfl (fun u hu=>gtZ_op u D8.out rfl rfl) hw ?_
       refine qo rfl hw ?_
       refine enP fun u97 EX96=>?_
       go_upto_region 12 with (fail)
       refine rgQ [0,1,2] [] EX96 rfl fun hw=>?_
       refine qo rfl hw ?_
       refine qv rfl (fun u hu=>addZ_op u HAJ.out rfl rfl) hw ?_
       refine qo rfl hw ?_
       refine enP fun u100 EX99=>?_
       have hii:=HJ.out
       have hkn:=HKN.out
       have hn:=HN63.out
       go_wp2
       go_roundw
       case rel=>exact⟨j+1,by omega,by omega,HST.out,rfl,EX99.out⟩
       case measure=>simp[intOf];omega
      have D8:Hid (decide ((0:Int)<nq)=true):=decide_eq_true c2
      have HST:Hid (Value.int .i64 (j:Int)= .int .i64 (lastB m.r (nq:Int) (j+1):Int)):=by show _=_;rw[lastB_yes HJ.out.1 (by rw[HLW.out];exact c1) c2]
      clear c1 c2
      go_upto_region 13 with (fail)
      refine rgQ [0,1,2,3,4,5,6,7,8,9] [] EX93 rfl fun hw=>?_
      refine qw 2 hw ?_
      refine qv (v:= .pointer (some ⟨gv,j*1,none⟩)) rfl (fun u hu=>idx0_op (i:=j) underlying52 intSize HJN.out u rfl rfl) hw ?_
      refine qv (v:= .int .i64 lv) rfl (fun u hu=>load_any_op u (run_load_one oneInt u (box_cell (k:=j*1) hu mH HLV.out)) rfl) hw ?_
      refine qo rfl hw ?_
      refine qv rfl (fun u hu=>geZ_op u D5.out rfl rfl) hw ?_
      refine qw 2 hw ?_
      refine qv rfl (fun u hu=>gtZ_op u D8.out rfl rfl) hw ?_
      refine qo rfl hw ?_
      refine enP fun u97 EX96=>?_
      go_upto_region 14 with (fail)
      refine rgQ [0,1] [] EX96 rfl fun hw=>?_
      refine qw 2 hw ?_
      refine enP fun u100 EX99=>?_
      go_upto_region 12 with (fail)
      refine rgQ [0,1,2] [] EX99 rfl fun hw=>?_
      refine qo rfl hw ?_
      refine qv rfl (fun u hu=>addZ_op u HAJ.out rfl rfl) hw ?_
      refine qo rfl hw ?_
      refine enP fun u103 EX102=>?_
      have hii:=HJ.out
      have hkn:=HKN.out
      have hn:=HN63.out
      go_wp2
      go_roundw
      case rel=>exact⟨j+1,by omega,by omega,HST.out,rfl,EX102.out⟩
      case measure=>simp[intOf];omega
    · obtain rfl:j=k+1:=by omega
      have C2:Hid (decide (((k+1:Nat):Int)<((k+1:Nat):Int))=false):=decide_eq_false (by omega)
      have hle:=lastB_le m.r (nq:Int) k
      have hld:=HLD.out
      rw[hla]at hle hld ⊢
      have HLE2:=hD hle
      have HAN:Hid (la<m.n):=by have:=HKN.out;show _<_;omega
      clear hla hj hj1 hlt HLT
      go_upto_region 11 with (fail)
      refine rgQ [0,1,2] [] EK rfl fun hw=>?_
      refine qw 2 hw ?_
      refine qv rfl (fun u hu=>ltZ_op u C2.out rfl rfl) hw ?_
      refine enP fun u374 EX373=>?_
      by_cases c7:(y.n1:Int)≤(nq:Int)
      case pos=>
       have D7:Hid (decide ((y.n1:Int)≤(nq:Int))=true):=decide_eq_true c7
       have hz:=hld.1 (by have:=HYN.out;omega)
       have D1:Hid (decide ((la:Int)=0)=true):=decide_eq_true (by omega)
       clear c7 hz hle hld
       go_upto_region 15 with (fail)
       refine rgQ [0,1,2,3,4,5,6,7] [] EX373 rfl fun hw=>?_
       refine qw 3 hw ?_
       refine qv (v:= .pointer (some (ad.add ((k+1)*137)))) rfl (fun u hu=>by rw[HAD.out];exact idxSl_op (i:=(k+1)) underlying22 aggBlk.size HKN.out u rfl rfl) hw ?_
       refine qv (v:= .pointer (some ((ad.add ((k+1)*137)).add 135))) rfl (fun u hu=>fieldBlk_op (k:=1) (off:=135) (ad:=(ad.add ((k+1)*137))) rfl u rfl) hw ?_
       refine qv (v:= .slice (some ai) y.n1 y.c1) rfl (fun u hu=>load_any_op u (by have h:=(HLY.out u (nl hu)).ids;rwa[HAI.out]at h) rfl) hw ?_
       refine qv rfl (fun u hu=>len_op underlying35 HY63.out u rfl) hw ?_
       refine qv rfl (fun u hu=>geZ_op u D7.out rfl rfl) hw ?_
       refine enP fun u377 EX376=>?_
       go_upto_region 16 with (fail)
       refine rgQ [0,1,2] [] EX376 rfl fun hw=>?_
       refine qo rfl hw ?_
       refine qv rfl (fun u hu=>eqlI_op u D1.out rfl rfl) hw ?_
       refine qo rfl hw ?_
       refine enP fun u380 EX379=>?_
       have HBE:=hD (EnvX.bel EX379.out)
       go_wp2
       go_ret
       exact⟨rfl,HBE.out⟩
      have D7:Hid (decide ((y.n1:Int)≤(nq:Int))=false):=decide_eq_false c7
      have hz:=hld.2 (by have:=HYN.out;omega)
      have HQN:Hid (nq<y.n1):=by show _<_;omega
      have HOA:Hid (okHd (m.l.getD la noBlkM).h):=HOZ.out la HAN.out
      have HLZ:Hid (∀u,EnvX w u []→LoadsB u (ad.add (la*137)) (m.l.getD la noBlkM)):=HLA.out la HAN.out
      have HIQ:Hid (∀u,EnvX w u []→(loadVar 26 (ai.add (nq*32))).run Tryz.prog u= .ok (idv ((x0::r).getD nq [])) u):=HIX.out nq HQN.out
      rw[(HLE.out la HAN.out).2]at hz
      obtain⟨za,hza⟩: ∃za,m.l.getD la noBlkM=za:=⟨_,rfl⟩
      rw[hza]at hz HOA HLZ
      obtain⟨iq,hiq⟩: ∃iq,(x0::r).getD nq []=iq:=⟨_,rfl⟩
      rw[hiq]at hz HIQ
      have HZI:Hid (idH za.h=iq):=hz.1.symm
      have HSQ:Hid (isId iq):=by rw[hz.1];exact idH_id _
      have HEQ:Hid (eqL iq iq=true):=by show _=_;unfold eqL;exact decide_eq_true rfl
      have HZO:Hid (nq=0∨0<la):=hz.2
      clear c7 hz hle hld hza hiq
      go_upto_region 15 with (fail)
      refine rgQ [0,1,2,3,4,5,6,7] [] EX373 rfl fun hw=>?_
      refine qw 3 hw ?_
      refine qv (v:= .pointer (some (ad.add ((k+1)*137)))) rfl (fun u hu=>by rw[HAD.out];exact idxSl_op (i:=(k+1)) underlying22 aggBlk.size HKN.out u rfl rfl) hw ?_
      refine qv (v:= .pointer (some ((ad.add ((k+1)*137)).add 135))) rfl (fun u hu=>fieldBlk_op (k:=1) (off:=135) (ad:=(ad.add ((k+1)*137))) rfl u rfl) hw ?_
      refine qv (v:= .slice (some ai) y.n1 y.c1) rfl (fun u hu=>load_any_op u (by have h:=(HLY.out u (nl hu)).ids;rwa[HAI.out]at h) rfl) hw ?_
      refine qv rfl (fun u hu=>len_op underlying35 HY63.out u rfl) hw ?_
      refine qv rfl (fun u hu=>geZ_op u D7.out rfl rfl) hw ?_
      refine enP fun u377 EX376=>?_
      by_cases c9:nq=0
      case pos=>
       have D17:Hid (decide ((nq:Int)=0)=true):=decide_eq_true (by omega)
       clear c9
       go_upto_region 17 with (fail)
       refine rgK [0,1,2,3,4,5,6,7,8,9,10,11,12,13,14,15,16,17,18,19,20,21,22,23] 0 EX376 rfl fun hw=>?_
       refine qw 2 hw ?_
       refine qv (v:= .pointer (some (ad.add ((k+1)*137)))) rfl (fun u hu=>by rw[HAD.out];exact idxSl_op (i:=(k+1)) underlying22 aggBlk.size HKN.out u rfl rfl) hw ?_
       refine qv (v:= .pointer (some ((ad.add ((k+1)*137)).add 135))) rfl (fun u hu=>fieldBlk_op (k:=1) (off:=135) (ad:=(ad.add ((k+1)*137))) rfl u rfl) hw ?_
       refine qv (v:= .slice (some ai) y.n1 y.c1) rfl (fun u hu=>load_any_op u (by have h:=(HLY.out u (nl hu)).ids;rwa[HAI.out]at h) rfl) hw ?_
       refine qo rfl hw ?_
       refine qv rfl (fun u hu=>idxSl_op underlying35 aggIdT.size HQN.out u rfl rfl) hw ?_
       refine qv rfl (fun u hu=>load_any_op u (HIQ.out u (nl hu)) rfl) hw ?_
       refine qw 2 hw ?_
       refine qv (v:= .pointer (some (ad.add (la*137)))) rfl (fun u hu=>by rw[HAD.out];exact idxSl_op (i:=la) underlying22 aggBlk.size HAN.out u rfl rfl) hw ?_
       refine qv (v:= .pointer (some ((ad.add (la*137)).add 0))) rfl (fun u hu=>fieldBlk_op (k:=0) (off:=0) (ad:=(ad.add (la*137))) rfl u rfl) hw ?_
       refine qv rfl (fun u hu=>load_any_op u (HLZ.out u (nl hu)).hd rfl) hw ?_
       refine qc (args:= #[hdV za.h]) (v:=idv iq) rfl func32 (fun u hu=>by have h:=hid_any za.h u HOA.out (HT.out.below (EnvX.bel hu));rw[HZI.out]at h;exact h) hw ?_
       refine qv rfl (fun u hu=>eqlb_op HSQ.out.1 HSQ.out.1 HEQ.out u rfl rfl) hw ?_
       refine qw 2 hw ?_
       refine qv rfl (fun u hu=>eqlI_op u D17.out rfl rfl) hw ?_
       refine qw 6 hw ?_
       refine eH fun u380 EX379=>?_
       have HBE:=hD (EnvX.bel EX379.out)
       go_wp2
       go_ret
       exact⟨rfl,HBE.out⟩
      have D17:Hid (decide ((nq:Int)=0)=false):=decide_eq_false (by omega)
      have D20:Hid (decide ((0:Int)<(la:Int))=true):=decide_eq_true (by rcases HZO.out with h|h<;>omega)
      clear c9
      go_upto_region 17 with (fail)
      refine rgK [0,1,2,3,4,5,6,7,8,9,10,11,12,13,14,15,16,17,18,19,20,21,22,23] 0 EX376 rfl fun hw=>?_
      refine qw 2 hw ?_
      refine qv (v:= .pointer (some (ad.add ((k+1)*137)))) rfl (fun u hu=>by rw[HAD.out];exact idxSl_op (i:=(k+1)) underlying22 aggBlk.size HKN.out u rfl rfl) hw ?_
      refine qv (v:= .pointer (some ((ad.add ((k+1)*137)).add 135))) rfl (fun u hu=>fieldBlk_op (k:=1) (off:=135) (ad:=(ad.add ((k+1)*137))) rfl u rfl) hw ?_
      refine qv (v:= .slice (some ai) y.n1 y.c1) rfl (fun u hu=>load_any_op u (by have h:=(HLY.out u (nl hu)).ids;rwa[HAI.out]at h) rfl) hw ?_
      refine qo rfl hw ?_
      refine qv rfl (fun u hu=>idxSl_op underlying35 aggIdT.size HQN.out u rfl rfl) hw ?_
      refine qv rfl (fun u hu=>load_any_op u (HIQ.out u (nl hu)) rfl) hw ?_
      refine qw 2 hw ?_
      refine qv (v:= .pointer (some (ad.add (la*137)))) rfl (fun u hu=>by rw[HAD.out];exact idxSl_op (i:=la) underlying22 aggBlk.size HAN.out u rfl rfl) hw ?_
      refine qv (v:= .pointer (some ((ad.add (la*137)).add 0))) rfl (fun u hu=>fieldBlk_op (k:=0) (off:=0) (ad:=(ad.add (la*137))) rfl u rfl) hw ?_
      refine qv rfl (fun u hu=>load_any_op u (HLZ.out u (nl hu)).hd rfl) hw ?_
      refine qc (args:= #[hdV za.h]) (v:=idv iq) rfl func32 (fun u hu=>by have h:=hid_any za.h u HOA.out (HT.out.below (EnvX.bel hu));rw[HZI.out]at h;exact h) hw ?_
      refine qv rfl (fun u hu=>eqlb_op HSQ.out.1 HSQ.out.1 HEQ.out u rfl rfl) hw ?_
      refine qw 2 hw ?_
      refine qv rfl (fun u hu=>eqlI_op u D17.out rfl rfl) hw ?_
      refine qw 2 hw ?_
      refine qv rfl (fun u hu=>gtZ_op u D20.out rfl rfl) hw ?_
      refine qw 3 hw ?_
      refine eH fun u380 EX379=>?_
      have HBE:=hD (EnvX.bel EX379.out)
      go_wp2
      go_ret
      exact⟨rfl,HBE.out⟩
end Go.Proofs.YtojmeodoenkapaaGreatDoor
namespace Go.Proofs.YtojmeodoenkapaaGreatDoor.chainLinks
set_option maxRecDepth 8000
open Go.ChangeShapes Go.WideShapes Go.ChangeAt Go.RowKit
theorem contract(H:Type)(enc:TypeId × Value→H)(W:World)(base:Nat)(args:Array Value)(ds gs:List (DataW H))(before:List MemPlace)
  (hval: ∀(j:Nat) t v,Tryz.f6.params[j]?=some t→args[j]?=some v→Value.okWide Tryz.prog W .any base t v)
  (hW:DataW.Whole enc Tryz.prog Tryz.f6.params.toList Rows.chainLinksSpec.vars false W args.toList ds gs before) (hL:laidMetH Tryz.prog Rows.chainLinksUptoRow.laid W) (hK:Rows.uptoSmall H (ds++gs)=true):
  Calls Tryz.prog 6 args W fun e W'=> ∃v,e= .returned v∧Rows.chainLinksSpec.post enc Tryz.prog Tryz.f6 false true false false W args v W':=by
 have hW':=hW
 obtain⟨p,q,hA0,hV,rfl,hfz,hnd⟩:=hW
 have hA:DataW.TrodAll enc Tryz.prog W 0 (fun _=>true) true Tryz.f6.params.toList args.toList ds p:=hA0
 rw[Tryz.params6]at hA hval
 obtain⟨v0,vs0,d0,ds0,p0,q0,hargs,rfl,rfl,h0,r0⟩:=trodAll_cons hA
 obtain⟨v1,vs1,d1,ds1,p1,q1,rfl,rfl,rfl,h1,r1⟩:=trodAll_cons r0
 obtain⟨v2,vs2,d2,ds2,p2,q2,rfl,rfl,rfl,h2,r2⟩:=trodAll_cons r1
 obtain⟨rfl,rfl,rfl⟩:=trodAll_nil r2
 obtain rfl:args= #[v0,v1,v2]:=by cases args;simp_all
 obtain⟨rfl,rfl⟩:=trodVars_none hV
 have hB:Rows.uptoBulkAll [d0,d1,d2]≤1048576:=of_decide_eq_true hK
 have lt0: ∀x∈p0,x.block<W.heap.size:=by obtain⟨m,hm⟩:=h0;exact DataW.trod_lt m _ _ _ hm
 obtain⟨x0,rfl,kx0,mx0⟩:=open_blksB (hval 0 22 v0 rfl rfl) h0 (Nat.le_trans (bulk_part mH) hB)
 obtain⟨x1,rfl,rfl,rfl,wx1⟩:=open_int underlying3 (hval 1 3 v1 rfl rfl) h1
 obtain⟨x2,rfl,rfl,rfl,wx2⟩:=open_int underlying3 (hval 2 3 v2 rfl rfl) h2
 clear hA0
 refine(law_chlinks chainC x0 x1 x2 W kx0 mx0 (bounds_i64 wx1) (bounds_i64 wx2) (tables_of_laid hL)).mono fun e W'⟨he,bel⟩=>?_
 subst he
 exact⟨_,rfl,_,_,_,[],_,[],hW',trodAll_mk1 (shut_bool underlying4 _),(trodAll_cons_mk (Below.trod laidOut (by kernel_rfl) (of_decide_eq_true (by kernel_rfl)) h0 bel lt0) (trodAll_cons_mk (shut_int underlying3 wx1) (trodAll_cons_mk (shut_int underlying3 wx2) trodAll_mk0))),rfl,bel.frame _,fun h=>by cases h⟩
def start:Array Value:= #[.slice none 0 0, .int .i64 0, .int .i64 0]
theorem reads(os:Os){H:Type}(enc:TypeId × Value→H): ∃places,DataW.whole enc Tryz.prog ((laidWorld os).forCall (fun _ _=>0) ⟨#[],start,[]⟩).memory Tryz.f6.params.toList Rows.chainLinksSpec.vars false start.toList 8=some ([.nil, .lit (.int .i64 0), .lit (.int .i64 0)],[],places):=
 ⟨[],by kernel_rfl⟩
theorem lifted(os:Os)(started:os.Started)(H:Type)(enc:TypeId × Value→H)(F:Stop.Interp):
  ReturnsInHanded {} Tryz.checked os 6 .any ((Rows.OpenSpec.upto Rows.chainLinksSpec).preRow enc Tryz.prog Tryz.f6 Rows.chainLinksUptoRow.domain false Rows.chainLinksUptoRow.laid) (((Rows.OpenSpec.upto Rows.chainLinksSpec).at F).post enc Tryz.prog Tryz.f6 false true false false):=by
 obtain⟨places,hx⟩:=reads os enc
 refine returnsInHanded_of_row (C:=Tryz.checked) (s:=Rows.OpenSpec.upto Rows.chainLinksSpec) own started (by kernel_rfl) func6
  (witness_row_at (enc:=enc) (C:=Tryz.checked) false (laidWorld os) start rfl (by kernel_rfl) (by kernel_rfl) (by kernel_rfl)
   (OpenSpec.preRow_of_cond 8 hx (by kernel_rfl) (fun k hk=>by cases hk;kernel_rfl) (by kernel_rfl) (laidMet_of_run' 8 (by kernel_rfl) (by kernel_rfl)))) ?_
 intro W base args ds gs before hval hW _ hcond _ hL _ _
 exact contract H enc W base args ds gs before hval hW hL (hcond _ rfl)
theorem said:Rows.ChainLinksUptoSaid:=
 OpenClaim.holds_of_cond 6 Tryz.f6 rfl rfl rfl rfl rfl rfl rfl ⟨rfl,rfl,rfl,rfl,rfl⟩ rfl rfl rfl rfl rfl (by kernel_rfl) func6 (by kernel_rfl)
  (of_decide_eq_true (by kernel_rfl)) (by unfold Func.isWrapper;first|(rw[if_pos (by decide+kernel)];kernel_rfl)|(rw[if_neg (by decide+kernel)];exact⟨rfl,rfl⟩))
  (fun os started H enc _ F=>by rw[OpenClaim.pre_eq_preRow];exact lifted os started H enc F)
theorem plain(f:FuncId)(fn:Func)(hf:Tryz.pinned.checked.prog.funcNamed "stepladder/stepladderlaw12.ChainLinks" =some f)(hfn:Tryz.pinned.checked.prog.funcs[f]?=some fn):
   false=Tryz.pinned.checked.prog.looks []∧ ∀(j:Nat) t,fn.params[j]?=some t→Tryz.pinned.checked.prog.wantsStandIn t=false:=by
 obtain rfl:f=6:=Option.some.inj ((show Tryz.prog.funcNamed "stepladder/stepladderlaw12.ChainLinks" =some 6 by kernel_rfl).symm.trans hf)|>.symm
 obtain rfl:fn=Tryz.f6:=(Option.some.inj (func6.symm.trans hfn)).symm
 refine⟨by kernel_rfl,fun j t ht=>?_⟩
 rw[Tryz.params6]at ht
 have hm:t=22∨t=3∨t=3:=by simpa using Array.mem_of_getElem? ht
 rcases hm with rfl|rfl|rfl
 · exact(show Tryz.prog.wantsStandIn 22=false by kernel_rfl)
 · exact(show Tryz.prog.wantsStandIn 3=false by kernel_rfl)
 · exact(show Tryz.prog.wantsStandIn 3=false by kernel_rfl)
theorem card:Rows.ChainLinksUptoCardSaid:=
 Claim7.holds_tied_plain_at .later [] _ _ _ _ said (fun _ h=>by cases h) (by kernel_rfl) (fun _ h=>by cases h) chainLinksUpto_row_tie rfl ⟨rfl,rfl⟩ (by kernel_rfl) rfl plain (by kernel_rfl)
end Go.Proofs.YtojmeodoenkapaaGreatDoor.chainLinks
