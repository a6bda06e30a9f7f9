/-
  PROVED: the law stepladderlaw12.ChainPushes answers true for every input whose reading is of bulk at most 1048576, and leaves its arguments as they were.
  Conditions: the two package-level tables of package sha hold at the call what their initialisers lay; the card ties that to the text of the program (a pruned copy of the project: the packages that the roots of this seat load).
-/
import Derived.Test.YtojmeodoenkapaaGreatDoorChainPushesPe
open Go.Proofs.Tryz
namespace Go.Proofs.YtojmeodoenkapaaGreatDoor
set_option maxRecDepth 20000
set_option maxHeartbeats 8000000
set_option linter.unusedVariables false
set_option linter.unusedSimpArgs false
open Go.RowKit
theorem j1t{f:FuncId}{args:Array Value}{u w0:World}{M:j0e}{r:TipR}{y:Value}{g:Nat→Prop}(h:Calls Tryz.prog f args u fun e w'=>(∃(t:TipM)(N:j0e),e= .returned (.tuple #[j29 t,y])∧KeptA N (IsTip r t)∧ ∀z∈N,g z.1∧w'.heap[z.1]?=some z.2)∧Below u.heap.size u w')(hu:EnvX w0 u M):
  Calls Tryz.prog f args u fun e w'=> ∃x M',e= .returned x∧EnvX w0 w' M'∧ ∃t N,x= .tuple #[.agg (j0j t),y]∧M'=N++M∧KeptA N (IsTip r t)∧(∃v,IsTip r t v)∧ ∀z∈N,g z.1:=
 h.mono fun e w'⟨⟨t,N,he,hk,hN⟩,hb⟩=>by
  have hE:=EnvX.below hu hb
  have h2:EnvX w0 w' (N++M):=⟨hE.bel,fun g o hm=>by
   rcases List.mem_append.1 hm with h|h
   · exact(hN (g,o) h).2
   · exact hE.box g o h⟩
  exact⟨_,_,he,h2,t,N,rfl,rfl,hk,⟨w',hk w0 w' _ h2 (fun y hy=>mL hy)⟩,fun z hz=>(hN z hz).1⟩
theorem q8V{b:BlkR}(h:isC b.h.bits=false∨(j4t b.h.bits).b≠b):j37 b=(j27,12):=by
 unfold j37
 refine if_neg fun k=>?_
 rcases h with h|h
 · rw[k.1]at h;cases h
 · exact h k.2
theorem j7F{l:List BlkR}{b:BlkR}(h1:1≤l.length)(hb:atB l 0=b)(h:isC b.h.bits=false∨(j4t b.h.bits).b≠b):j0q l=(j27,12):=by
 have e:j0q (l.take 1)=(j27,12):=by rw[q05 h1,hb,q8V h]
 rw[j67 (Nat.le_refl 1) h1 (by rw[e];decide),e]
theorem q3x{q:List BlkM}{n c:Nat}{A:Option Addr}{Nx N:j0e}(hq:q.length=n)(hF:FreshR 37 137 n (q.map j04).flatten (.slice A n c) Nx)(hb:n≤c∧c≤maxLen)(hk: ∀t∈q,KeptA N (fun u=>BlkOk u t)):KeptA (Nx++N) (fun u=>RowOk u ⟨q,A,n,c⟩):=fun w0 u M hu hM=>by
 have he: ∀t∈q,BlkOk u t:=fun t ht=>hk t ht w0 u M hu (fun y hy=>hM y (mR hy))
 have hR:isRows 137 (q.map j04):=fun y hy=>by
  obtain⟨t,ht,rfl⟩:=List.mem_map.1 hy
  exact j0y (he t ht).h.len
 exact⟨hq,hb,⟨j2W hF (by rw[hR.flat_len,lM,hq]) w0 u M hu (fun y hy=>hM y (mL hy)),he⟩⟩
theorem q59{q:List BlkM}{n:Nat}(hq:q.length=n){u:World}(he: ∀t∈q,BlkOk u t):(q.map j04).flatten.length=n*137:=by
 have hR:isRows 137 (q.map j04):=fun y hy=>by
  obtain⟨t,ht,rfl⟩:=List.mem_map.1 hy
  exact j0y (he t ht).h.len
 rw[hR.flat_len,lM,hq]
theorem q0D(BS:j0e)(m:RowM)(w:World)(hg: ∀y∈BS,w.heap[y.1]?=some y.2∧ ∃z,y.2=oc (j0j z) 41)(hm:RowOk w m)(mm:midRowR m.r)(ht:Tables w)(h0:m.n=0):
  Calls Tryz.prog 13 #[j4e m] w fun e w'=>(∃(t:TipM)(N:j0e),e= .returned (.tuple #[j29 t, .int .i64 ((j0q m.r).2:Int)])∧KeptA N (IsTip (j0q m.r).1 t)∧ ∀y∈N,(∀x∈BS,y.1≠x.1)∧w'.heap[y.1]?=some y.2)∧Below w.heap.size w w':=by
 have HN63:Hid (m.n<9223372036854775808):=hm.n63
 have HNL:Hid (j0M noTipM.b.h):=j1k
 have E1:Hid (EnvX w (w.alloc (.cells (j0j noTipM) 41)) [(w.heap.size,oc (j0j noTipM) 41)]):=(EnvX.start w).new _
 have HF:Hid (j0q m.r=(j27,9)):=by
  show _=_
  rw[List.eq_nil_of_length_eq_zero (show m.r.length=0 by rw[m.r_len,hm.l,h0])]
  rfl
 have D2:Hid (decide ((m.n:Int)=0)=true):=decide_eq_true (by omega)
 clear hm mm ht h0 hg
 unfold j4e
 go_enter func13,ntmps13
 go_upto_region 1 with (fail)
 rw[←j2I]
 generalize w.alloc (.cells (j0j noTipM) 41)=W at *
 refine rgQ [0,1,2] [] E1 rfl fun hw=>?_
 refine qo rfl hw ?_
 refine qv rfl (fun u hu=>j0l underlying22 HN63.out u rfl) hw ?_
 refine qv rfl (fun u hu=>j1C u D2.out rfl rfl) hw ?_
 refine enP fun u3 EX2=>?_
 go_upto_region 2 with (fail)
 refine rgQ [0] [1,2] EX2 rfl fun hw=>?_
 refine qv (v:= .agg (j0j noTipM)) rfl (fun u hu=>j0p u j3Z) hw ?_
 refine j0b<|(so (cs:=j0j noTipM) rfl (Nat.le_refl _) mH (j0K _ (j0m HNL.out)) rfl (j0R _) ?_)
 intro he35
 refine phE [2] [] he35 fun hw=>?_
 refine qo rfl hw ?_
 refine enP fun u38 EX37=>?_
 have Q0:=hD (EnvX.box EX37.out _ _ mH)
 have HBEL:=hD EX37.out.bel
 clear EX37
 go_wp2_with ((with_reducible refine bodyPost_ret (v:= .tuple #[.agg (j0j noTipM), .int .i64 9]) ?_ ?_ ?_);(exact j0v (p:=2) (q:=3) (ty:=41) results13 _ _ (w.heap.size) 41 (j0j noTipM) (0,0) _ rfl _ rfl Q0.out underlying41 rfl (j0K _ (j0m HNL.out)));(rfl))
 first|exact⟨⟨noTipM,[],by rw[HF.out]<;>rfl,by rw[HF.out];exact fun _ _ _ _ _=>⟨rfl,TipOk.no _⟩,(fun y hy=>by cases hy)⟩,HBEL.out⟩|exact⟨⟨noTipM,[],by rw[HF.out]<;>first|rfl|exact⟨rfl,rfl⟩,by rw[HF.out];exact fun _ _ _ _ _=>⟨rfl,TipOk.no _⟩,(fun a b hy=>by cases hy)⟩,HBEL.out⟩|exact⟨⟨noTipM,by rw[HF.out]<;>first|rfl|exact⟨rfl,rfl⟩,[],by rw[HF.out];exact fun _ _ _ _ _=>⟨rfl,TipOk.no _⟩,(fun a b hy=>by cases hy)⟩,HBEL.out⟩
theorem q0W(BS:j0e)(m:RowM)(w:World)(hg: ∀y∈BS,w.heap[y.1]?=some y.2∧ ∃z,y.2=oc (j0j z) 41)(hm:RowOk w m)(mm:midRowR m.r)(ht:Tables w)(h0:1≤m.n):
  Calls Tryz.prog 13 #[j4e m] w fun e w'=>(∃(t:TipM)(N:j0e),e= .returned (.tuple #[j29 t, .int .i64 ((j0q m.r).2:Int)])∧KeptA N (IsTip (j0q m.r).1 t)∧ ∀y∈N,(∀x∈BS,y.1≠x.1)∧w'.heap[y.1]?=some y.2)∧Below w.heap.size w w':=by
 have HN63:Hid (m.n<9223372036854775808):=hm.n63
 have HNL:Hid (j0M noTipM.b.h):=j1k
 have E1:Hid (EnvX w (w.alloc (.cells (j0j noTipM) 41)) [(w.heap.size,oc (j0j noTipM) 41)]):=(EnvX.start w).new _
 have HM:=hD hm
 have H1N:Hid (1≤m.n):=h0
 have HI:Hid (0<m.n):=h0
 have hl1:1≤m.l.length:=by rw[hm.l];exact h0
 have hr1:1≤m.r.length:=by rw[m.r_len];exact hl1
 obtain⟨x,hx⟩: ∃x,m.l.getD 0 noBlkM=x:=⟨_,rfl⟩
 have hat:atB m.r 0=x.r:=by rw[←hx];exact j5O hl1
 have hrow:=q9k hl1
 rw[hx]at hrow
 obtain⟨ad,hA,hca⟩:=hm.m.cellsAt hl1
 rw[hx]at hca
 have hok:BlkOk w x:=by rw[←hx];exact hm.m.get hl1
 have hmx:j2c x:=by rw[j2D,←hat];exact mm.at hr1
 have HKX:Hid (j0M x.h):=hok.h.len
 have HAD:=hD hA
 have HLD:Hid (∀u,EnvX w u []→(loadVar 37 (ad.add (0*137))).run Tryz.prog u= .ok (j1O x) u):=fun u hu=>(j73 HKX.out (hca u hu)).1
 have HBI:Hid (∀u,EnvX w u []→(loadVar 27 (((ad.add (0*137)).add 0).add 133)).run Tryz.prog u= .ok (.int .u32 (x.h.bits:Int)) u):=fun u hu=>by
  rw[x0S]
  exact(j0B HKX.out (fun j v hv=>hca u hu j v ((j1M HKX.out).1 j v hv))).2.2.2.2.2.2.2.1
 have HFI:Hid (∀u,EnvX w u []→j1T 38 #[.int .u32 (x.h.bits:Int)] u (j86 (j2S x.h.bits).1 (j2S x.h.bits).2)):=fun u hu=>j7r x.h.bits u hok.h.2.2.2.2.2.2.1 (ht.below (EnvX.bel hu))
 have D2:Hid (decide ((m.n:Int)=0)=false):=decide_eq_false (by omega)
 obtain⟨bc,hbc⟩: ∃bc,isC x.h.bits=bc:=⟨_,rfl⟩
 have HFE:Hid (j2S x.h.bits=(if bc then (j4t x.h.bits,true)else (j27,false))):=by show _=_;unfold j2S;rw[hbc]
 cases bc with
 |false=>
  have HF:Hid (j0q m.r=(j27,12)):=j7F hr1 hat (.inl hbc)
  clear hm mm ht h0 hg hl1 hr1 hx hat hrow hA hca hok hmx hbc
  rw[HFE.out]at HFI
  unfold j4e
  go_enter func13,ntmps13
  go_upto_region 1 with (fail)
  rw[←j2I]
  generalize w.alloc (.cells (j0j noTipM) 41)=W at *
  refine rgQ [0,1,2] [] E1 rfl fun hw=>?_
  refine qo rfl hw ?_
  refine qv rfl (fun u hu=>j0l underlying22 HN63.out u rfl) hw ?_
  refine qv rfl (fun u hu=>j1C u D2.out rfl rfl) hw ?_
  refine enP fun u3 EX2=>?_
  go_upto_region 3 with (fail)
  refine rgQ [0,1,2,3,4] [5,6,7,8,9,10,11] EX2 rfl fun hw=>?_
  refine qo rfl hw ?_
  refine qv (v:= .pointer (some (ad.add (0*137)))) rfl (fun u hu=>by rw[HAD.out];exact j0h (i:=0) underlying22 aggBlk.size HI.out u rfl rfl) hw ?_
  refine qv (v:= .pointer (some ((ad.add (0*137)).add 0))) rfl (fun u hu=>j1P (k:=0) (off:=0) (ad:=(ad.add (0*137))) rfl u rfl) hw ?_
  refine qv (v:= .pointer (some (((ad.add (0*137)).add 0).add 133))) rfl (fun u hu=>j59 (k:=6) (off:=133) (ad:=(ad.add (0*137)).add 0) rfl u rfl) hw ?_
  refine qv rfl (fun u hu=>j0a u (HBI.out u (nl hu)) rfl) hw ?_
  refine j0b<|(j0X (gd:=none) (R:=fun xv M'=> ∃Nq,j86 (j27) false xv Nq∧M'=Nq++[(w.heap.size,oc (j0j noTipM) 41)]∧ ∀y∈Nq,w.heap.size≤y.1∧ ∀z∈[(w.heap.size,oc (j0j noTipM) 41)],z.1≠y.1) rfl rfl rfl rfl (fun u hu=>j0D (fid:=38) (xs:= #[.tmp 15]) (args:= #[.int .u32 (x.h.bits:Int)]) rfl func38 rfl rfl u (j3X (HFI.out u (nl hu)) hu)) ?_)
  rintro xv_ M'_ ⟨N1,hR1,rfl,hn1⟩ he5;intro K' hK';go_big_quiet_op;go_big_quiet_on
  obtain⟨t1,rfl,hk1,hv1⟩:=hR1
  have HN1:=hD hn1
  clear hn1
  have HT1:=hD hk1
  have HV1:=hD hv1
  have HK1:Hid (j0M t1.b.h):=by obtain⟨v,hv⟩:=HV1.out;exact hv.2.b.h.len
  clear hk1 hv1
  refine phE [6,7,8] [9,10,11] he5 fun hw=>?_
  refine qw 3 hw ?_
  refine j0b<|qn rfl (j2d _) fun g4 HGg4 he7=>?_
  change j1E _ _ _ _ _ _ ((g4,oc (j0j noTipM) 41)::(N1++((w.heap.size,oc (j0j noTipM) 41)::[])))
  refine(sh rfl HGg4 (j0K _ (j0m HK1.out)) (j0V HK1.out) (j0R _) ?_)
  intro he8
  refine phE [11] [] he8 fun hw=>?_
  refine qo rfl hw ?_
  refine enP fun u11 EX10=>?_
  go_upto_region 4 with (fail)
  refine rgK [0,1,2,3,4,5,6,7,8,9,10] 0 EX10 rfl fun hw=>?_
  refine qw 11 hw ?_
  refine eH fun u14 EX13=>?_
  have E9:Hid (EnvX w u14 [(w.heap.size,oc (j0j noTipM) 41)]):=EnvX.sub EX13.out (fun y hy=>by cases mS.1 hy;exact(mT (mR mH)))
  clear EX13
  go_upto_region 5 with (fail)
  refine rgQ [0] [1,2] E9 rfl fun hw=>?_
  refine qv (v:= .agg (j0j noTipM)) rfl (fun u hu=>j0p u j3Z) hw ?_
  refine j0b<|(so (cs:=j0j noTipM) rfl (Nat.le_refl _) mH (j0K _ (j0m HNL.out)) rfl (j0R _) ?_)
  intro he46
  refine phE [2] [] he46 fun hw=>?_
  refine qo rfl hw ?_
  refine enP fun u49 EX48=>?_
  have Q0:=hD (EnvX.box EX48.out _ _ mH)
  have HBEL:=hD EX48.out.bel
  clear EX48
  go_wp2_with ((with_reducible refine bodyPost_ret (v:= .tuple #[.agg (j0j noTipM), .int .i64 12]) ?_ ?_ ?_);(exact j0v (p:=2) (q:=3) (ty:=41) results13 _ _ (w.heap.size) 41 (j0j noTipM) (0,0) _ rfl _ rfl Q0.out underlying41 rfl (j0K _ (j0m HNL.out)));(rfl))
  first|exact⟨⟨noTipM,[],by rw[HF.out]<;>rfl,by rw[HF.out];exact fun _ _ _ _ _=>⟨rfl,TipOk.no _⟩,(fun y hy=>by cases hy)⟩,HBEL.out⟩|exact⟨⟨noTipM,[],by rw[HF.out]<;>first|rfl|exact⟨rfl,rfl⟩,by rw[HF.out];exact fun _ _ _ _ _=>⟨rfl,TipOk.no _⟩,(fun a b hy=>by cases hy)⟩,HBEL.out⟩|exact⟨⟨noTipM,by rw[HF.out]<;>first|rfl|exact⟨rfl,rfl⟩,[],by rw[HF.out];exact fun _ _ _ _ _=>⟨rfl,TipOk.no _⟩,(fun a b hy=>by cases hy)⟩,HBEL.out⟩
 | true=>
  rw[HFE.out]at HFI
  have HSM:Hid (∀(u:World)(s:TipM),EnvX w u []→IsTip (j4t x.h.bits) s u→Calls Tryz.prog 39 #[j1O s.b,j1O x] u fun e w'=>e= .returned (.bool (decide ((j4t x.h.bits).b=x.r)))∧Below u.heap.size u w'):=fun u s hu hs=>by
   have h:=j8W s.b x u hs.2.b ((j2D _).2 (by rw[show s.b.r=(j4t x.h.bits).b from congrArg TipR.b hs.1];exact⟨Nat.zero_le _,Nat.zero_le _,fun y hy=>by cases hy⟩)) (hok.up (EnvX.bel hu)) hmx
   rwa[show s.b.r=(j4t x.h.bits).b from congrArg TipR.b hs.1]at h
  obtain⟨bs,hbs⟩: ∃bs,decide ((j4t x.h.bits).b=x.r)=bs:=⟨_,rfl⟩
  rw[hbs]at HSM
  have HAN:Hid (bs=false→j0q m.r=(j27,12)):=fun e=>j7F hr1 hat (.inr (by rw[e]at hbs;exact of_decide_eq_false hbs))
  have HCK:Hid (bs=true→j0q [x.r]=(j4t x.h.bits,0)):=fun e=>by
   rw[e]at hbs
   show j37 x.r=_
   unfold j37
   exact if_pos ⟨hbc,of_decide_eq_true hbs⟩
  have HPA:Hid (bs=true→ ∀(u:World)(s:TipM)(N:j0e),Below w.heap.size w u→KeptA N (IsTip (j4t x.h.bits) s)→(∀y∈N,w.heap.size≤y.1∧y.1≠w.heap.size∧u.heap[y.1]?=some y.2)→u.heap[w.heap.size]?=some (oc (j0j noTipM) 41)→Calls Tryz.prog 40 #[j29 s, .slice (j5d 137 m.A 1 m.c) (m.n- 1) (m.c- 1)] u fun e w'=>(∃(q:TipM)(N:j0e),e= .returned (.tuple #[j29 q, .int .i64 ((j0q m.r).2:Int)])∧KeptA N (IsTip (j0q m.r).1 q)∧ ∀y∈N,(∀x∈(w.heap.size,oc (j0j noTipM) 41)::BS,y.1≠x.1)∧w'.heap[y.1]?=some y.2)∧Below u.heap.size u w'):=fun e u s N hu hk hN hg0=>by
   have hlt: ∀y∈BS,y.1<w.heap.size:=fun y hy=>(Array.getElem?_eq_some_iff.1 (hg y hy).1).1
   have hc:=HCK.out e
   have h:=q7q x.r s ⟨m.l.drop 1,j5d 137 m.A 1 m.c,m.n- 1,m.c- 1⟩ ((w.heap.size,oc (j0j noTipM) 41)::BS) N u (by rw[hc]) (by rw[hc];exact hk) (fun y hy=>⟨fun x hx=>(by
    rcases List.mem_cons.1 hx with h|h
    · rw[h];exact(hN y hy).2.1
    · have:=hlt x h;have:=(hN y hy).1;omega),(hN y hy).2.2⟩) (fun y hy=>(by
    rcases List.mem_cons.1 hy with h|h
    · rw[h];exact⟨hg0,_,rfl⟩
    · exact⟨(hu.block _ (hlt y h)).trans (hg y h).1,(hg y h).2⟩)) ((HM.out.rest H1N.out).up hu) (by rw[hrow]at mm;exact mm) (ht.below hu)
   rw[hrow]
   exact h
  clear hm mm ht h0 hg hl1 hr1 hx hat hrow hA hca hok hmx hbc hbs HM
  unfold j4e
  go_enter func13,ntmps13
  go_upto_region 1 with (fail)
  rw[←j2I]
  generalize w.alloc (.cells (j0j noTipM) 41)=W at *
  refine rgQ [0,1,2] [] E1 rfl fun hw=>?_
  refine qo rfl hw ?_
  refine qv rfl (fun u hu=>j0l underlying22 HN63.out u rfl) hw ?_
  refine qv rfl (fun u hu=>j1C u D2.out rfl rfl) hw ?_
  refine enP fun u3 EX2=>?_
  go_upto_region 3 with (fail)
  refine rgQ [0,1,2,3,4] [5,6,7,8,9,10,11] EX2 rfl fun hw=>?_
  refine qo rfl hw ?_
  refine qv (v:= .pointer (some (ad.add (0*137)))) rfl (fun u hu=>by rw[HAD.out];exact j0h (i:=0) underlying22 aggBlk.size HI.out u rfl rfl) hw ?_
  refine qv (v:= .pointer (some ((ad.add (0*137)).add 0))) rfl (fun u hu=>j1P (k:=0) (off:=0) (ad:=(ad.add (0*137))) rfl u rfl) hw ?_
  refine qv (v:= .pointer (some (((ad.add (0*137)).add 0).add 133))) rfl (fun u hu=>j59 (k:=6) (off:=133) (ad:=(ad.add (0*137)).add 0) rfl u rfl) hw ?_
  refine qv rfl (fun u hu=>j0a u (HBI.out u (nl hu)) rfl) hw ?_
  refine j0b<|(j0X (gd:=none) (R:=fun xv M'=> ∃Nq,j86 (j4t x.h.bits) true xv Nq∧M'=Nq++[(w.heap.size,oc (j0j noTipM) 41)]∧ ∀y∈Nq,w.heap.size≤y.1∧ ∀z∈[(w.heap.size,oc (j0j noTipM) 41)],z.1≠y.1) rfl rfl rfl rfl (fun u hu=>j0D (fid:=38) (xs:= #[.tmp 15]) (args:= #[.int .u32 (x.h.bits:Int)]) rfl func38 rfl rfl u (j3X (HFI.out u (nl hu)) hu)) ?_)
  rintro xv_ M'_ ⟨N1,hR1,rfl,hn1⟩ he5;intro K' hK';go_big_quiet_op;go_big_quiet_on
  obtain⟨t1,rfl,hk1,hv1⟩:=hR1
  have HN1:=hD hn1
  clear hn1
  have HT1:=hD hk1
  have HV1:=hD hv1
  have HK1:Hid (j0M t1.b.h):=by obtain⟨v,hv⟩:=HV1.out;exact hv.2.b.h.len
  clear hk1 hv1
  refine phE [6,7,8] [9,10,11] he5 fun hw=>?_
  refine qw 3 hw ?_
  refine j0b<|qn rfl (j2d _) fun g4 HGg4 he7=>?_
  change j1E _ _ _ _ _ _ ((g4,oc (j0j noTipM) 41)::(N1++((w.heap.size,oc (j0j noTipM) 41)::[])))
  refine(sh rfl HGg4 (j0K _ (j0m HK1.out)) (j0V HK1.out) (j0R _) ?_)
  intro he8
  refine phE [11] [] he8 fun hw=>?_
  refine qo rfl hw ?_
  refine enP fun u11 EX10=>?_
  cases bs with
  |false=>
   have HF:Hid (j0q m.r=(j27,12)):=HAN.out rfl
   clear HPA HAN HCK
   go_upto_region 4 with (fail)
   refine rgK [0,1,2,3,4,5,6,7,8,9,10] 0 EX10 rfl fun hw=>?_
   refine qw 4 hw ?_
   refine ql rfl mH HK1.out hw ?_
   refine qo rfl hw ?_
   refine qv (v:= .pointer (some (ad.add (0*137)))) rfl (fun u hu=>by rw[HAD.out];exact j0h (i:=0) underlying22 aggBlk.size HI.out u rfl rfl) hw ?_
   refine qv rfl (fun u hu=>j0a u (HLD.out u (nl hu)) rfl) hw ?_
   refine qc rfl func39 (fun u hu=>HSM.out u t1 (nl hu) (HT1.out w u _ hu (fun y MEM=>(mT (mL MEM))))) hw ?_
   refine qw 2 hw ?_
   refine eH fun u14 EX13=>?_
   have E9:Hid (EnvX w u14 [(w.heap.size,oc (j0j noTipM) 41)]):=EnvX.sub EX13.out (fun y hy=>by cases mS.1 hy;exact(mT (mR mH)))
   clear EX13
   go_upto_region 5 with (fail)
   refine rgQ [0] [1,2] E9 rfl fun hw=>?_
   refine qv (v:= .agg (j0j noTipM)) rfl (fun u hu=>j0p u j3Z) hw ?_
   refine j0b<|(so (cs:=j0j noTipM) rfl (Nat.le_refl _) mH (j0K _ (j0m HNL.out)) rfl (j0R _) ?_)
   intro he46
   refine phE [2] [] he46 fun hw=>?_
   refine qo rfl hw ?_
   refine enP fun u49 EX48=>?_
   have Q0:=hD (EnvX.box EX48.out _ _ mH)
   have HBEL:=hD EX48.out.bel
   clear EX48
   go_wp2_with ((with_reducible refine bodyPost_ret (v:= .tuple #[.agg (j0j noTipM), .int .i64 12]) ?_ ?_ ?_);(exact j0v (p:=2) (q:=3) (ty:=41) results13 _ _ (w.heap.size) 41 (j0j noTipM) (0,0) _ rfl _ rfl Q0.out underlying41 rfl (j0K _ (j0m HNL.out)));(rfl))
   first|exact⟨⟨noTipM,[],by rw[HF.out]<;>rfl,by rw[HF.out];exact fun _ _ _ _ _=>⟨rfl,TipOk.no _⟩,(fun y hy=>by cases hy)⟩,HBEL.out⟩|exact⟨⟨noTipM,[],by rw[HF.out]<;>first|rfl|exact⟨rfl,rfl⟩,by rw[HF.out];exact fun _ _ _ _ _=>⟨rfl,TipOk.no _⟩,(fun a b hy=>by cases hy)⟩,HBEL.out⟩|exact⟨⟨noTipM,by rw[HF.out]<;>first|rfl|exact⟨rfl,rfl⟩,[],by rw[HF.out];exact fun _ _ _ _ _=>⟨rfl,TipOk.no _⟩,(fun a b hy=>by cases hy)⟩,HBEL.out⟩
  |true=>
   replace HPA:=hD (HPA.out rfl)
   clear HAN HCK
   go_upto_region 4 with (fail)
   refine rgK [0,1,2,3,4,5,6,7,8,9,10] 0 EX10 rfl fun hw=>?_
   refine qw 4 hw ?_
   refine ql rfl mH HK1.out hw ?_
   refine qo rfl hw ?_
   refine qv (v:= .pointer (some (ad.add (0*137)))) rfl (fun u hu=>by rw[HAD.out];exact j0h (i:=0) underlying22 aggBlk.size HI.out u rfl rfl) hw ?_
   refine qv rfl (fun u hu=>j0a u (HLD.out u (nl hu)) rfl) hw ?_
   refine qc rfl func39 (fun u hu=>HSM.out u t1 (nl hu) (HT1.out w u _ hu (fun y MEM=>(mT (mL MEM))))) hw ?_
   refine qw 2 hw ?_
   refine eH fun u14 EX13=>?_
   obtain⟨rc,hrc⟩: ∃rc,j0q m.r=rc:=⟨_,rfl⟩
   rw[hrc]at HPA
   have HF:=hD hrc
   clear hrc
   go_upto_region 6 with (fail)
   refine rgK [0,1,2] 5 EX13 rfl fun hw=>?_
   refine ql rfl mH HK1.out hw ?_
   refine qo rfl hw ?_
   refine qv (v:= .slice (j5d 137 m.A 1 m.c) (m.n- 1) (m.c- 1)) rfl (fun u hu=>j60 j13 (j:=1) u H1N.out rfl rfl) hw ?_
   refine j0b<|aO 3 (j0X (gd:=none) (R:=fun xv M'=> ∃u6 N6,xv= .tuple #[.agg (j0j u6), .int .i64 (rc.2:Int)]∧M'=N6++((g4,oc (j0j t1) 41)::(N1++((w.heap.size,oc (j0j noTipM) 41)::[])))∧KeptA N6 (IsTip rc.1 u6)∧(∃v,IsTip rc.1 u6 v)∧ ∀z∈N6,∀x∈(w.heap.size,oc (j0j noTipM) 41)::BS,z.1≠x.1) rfl rfl rfl rfl (fun u hu=>j0D (fid:=40) (xs:= #[.tmp 31, .tmp 33]) (args:= #[j29 t1, .slice (j5d 137 m.A 1 m.c) (m.n- 1) (m.c- 1)]) rfl func40 rfl rfl u (j1t (g:=fun k=> ∀x∈(w.heap.size,oc (j0j noTipM) 41)::BS,k≠x.1) (HPA.out u t1 N1 (EnvX.bel hu) HT1.out (fun y MEM=>⟨(HN1.out y MEM).1,fun e=>(HN1.out y MEM).2 _ mH e.symm,EnvX.box hu _ _ (mT (mL MEM))⟩) (EnvX.box hu _ _ (mT (mR mH)))) hu)) ?_)
   rintro xv_ M'_ ⟨u6,N6,rfl,rfl,hk6,hv6,hn6⟩ he16;intro K' hK';go_big_quiet_op;go_big_quiet_on
   have HT6:=hD hk6
   have HV6:=hD hv6
   have HN6:=hD hn6
   have HK6:Hid (j0M u6.b.h):=by obtain⟨v,hv⟩:=HV6.out;exact hv.2.b.h.len
   clear hk6 hv6 hn6
   refine phF [4,5] 2 rfl he16 fun hw=>?_
   refine qw 2 hw ?_
   refine j0b<|aO 6 (j0z rfl (w.heap.size) (j0j u6) rfl rfl (Nat.le_refl _) 41 ((j0j noTipM)) (mR (mT (mR mH))) (j0K _ (j0m HK6.out)) (j0V HK6.out) (j0R _) ((w.heap.size,oc (j0j u6) 41)::(N6++[])) (mA ⟨.inl rfl,fun y hy=> .inr ⟨mL (by simpa using hy),HN6.out y (by simpa using hy) _ mH⟩⟩) ?_)
   intro he18
   refine phF [7] 0 rfl he18 fun hw=>?_
   refine qo rfl hw ?_
   refine eH fun u21 EX20=>?_
   have HFB:Hid (∀y∈N6,(∀x∈BS,y.1≠x.1)∧u21.heap[y.1]?=some y.2):=fun y hy=>⟨fun x hx=>HN6.out y hy x (mT hx),EnvX.box EX20.out _ _ (mT (by simpa using hy))⟩
   have Q0:=hD (EnvX.box EX20.out _ _ mH)
   have HBEL:=hD EX20.out.bel
   clear EX20
   go_wp2_with ((with_reducible refine bodyPost_ret (v:= .tuple #[.agg (j0j u6), .int .i64 (rc.2:Int)]) ?_ ?_ ?_);(exact j0v (p:=2) (q:=3) (ty:=41) results13 _ _ (w.heap.size) 41 (j0j u6) (0,0) _ rfl _ rfl Q0.out underlying41 rfl (j0K _ (j0m HK6.out)));(rfl))
   first|exact⟨⟨u6,N6,by rw[HF.out]<;>rfl,by rw[HF.out];exact HT6.out,HFB.out⟩,HBEL.out⟩|exact⟨⟨u6,N6,by rw[HF.out]<;>first|rfl|exact⟨rfl,rfl⟩,by rw[HF.out];exact HT6.out,fun a b hy=>⟨fun p q hx=>(HFB.out (a,b) hy).1 (p,q) hx,(HFB.out (a,b) hy).2⟩⟩,HBEL.out⟩|exact⟨⟨u6,by rw[HF.out]<;>first|rfl|exact⟨rfl,rfl⟩,N6,by rw[HF.out];exact HT6.out,fun a b hy=>⟨fun p q hx=>(HFB.out (a,b) hy).1 (p,q) hx,(HFB.out (a,b) hy).2⟩⟩,HBEL.out⟩
theorem j1G(BS:j0e)(m:RowM)(w:World)(hg: ∀y∈BS,w.heap[y.1]?=some y.2∧ ∃z,y.2=oc (j0j z) 41)(hm:RowOk w m)(mm:midRowR m.r)(ht:Tables w):
   Calls Tryz.prog 13 #[j4e m] w fun e w'=>(∃(t:TipM)(N:j0e),e= .returned (.tuple #[j29 t, .int .i64 ((j0q m.r).2:Int)])∧KeptA N (IsTip (j0q m.r).1 t)∧ ∀y∈N,(∀x∈BS,y.1≠x.1)∧w'.heap[y.1]?=some y.2)∧Below w.heap.size w w':=by
 rcases Nat.eq_zero_or_pos m.n with h|h
 · exact q0D BS m w hg hm mm ht h
 · exact q0W BS m w hg hm mm ht h
theorem q7n(m:RowM)(w:World)(hm:RowOk w m)(mm:midRowR m.r)(ht:Tables w):
  Calls Tryz.prog 13 #[j4e m] w fun e w'=>(∃t:TipM,e= .returned (.tuple #[j29 t, .int .i64 ((j0q m.r).2:Int)])∧IsTip (j0q m.r).1 t w')∧Below w.heap.size w w':=
 (j1G [] m w (fun y hy=>by cases hy) hm mm ht).mono fun e w'⟨⟨t,N,he,hk,hN⟩,hb⟩=>⟨⟨t,he,hk w w' N ⟨hb,fun g o hm=>(hN (g,o) hm).2⟩ (fun y hy=>hy)⟩,hb⟩
theorem x2N{w0 u:World}{M:j0e}{g:Nat}{ty:TypeId}{b:BlkM}(hu:EnvC w0 M u)(hm:(g,oc (j04 b).toArray ty)∈M)(hb:BlkOk u b):RowOk u ⟨[b],some ⟨g,0,none⟩,1,1⟩:=by
 refine⟨rfl,⟨Nat.le_refl _,by show (1:Nat)≤maxLen;unfold maxLen;omega⟩,⟨?_,fun t ht=>by cases mS.1 ht;exact hb⟩⟩
 show CellsIn _ _ _ ([j04 b].flatten)
 rw[List.flatten_singleton]
 exact j92 hu hm rfl
theorem q9X(b:BlkM):q2o [b]=fewK b:=by
 unfold q2o
 rw[List.all_cons,List.all_nil,Bool.and_true,show decide ((([b]:List BlkM).length:Int)≤50)=true from rfl,Bool.and_true]
theorem q8a{w:World}{m:RowM}(h:RowOk w m):(m.l.map j04).flatten.length=m.n*137:=by rw[h.m.flat,h.l]
theorem j4N{u:World}{w0:World}{M N:j0e}{q:List BlkM}{n c:Nat}{A:Option Addr}(hu:EnvX w0 u M)(hN: ∀y∈N,y∈M)(hF:FreshR 37 137 n (q.map j04).flatten (.slice A n c) N)(hq:q.length=n)(hb:n≤c∧c≤maxLen)(he: ∀t∈q,BlkOk u t):RowOk u ⟨q,A,n,c⟩:=by
 have hR:isRows 137 (q.map j04):=fun y hy=>by
  obtain⟨t,ht,rfl⟩:=List.mem_map.1 hy
  exact j0y (he t ht).h.len
 exact⟨hq,hb,⟨j2W hF (by rw[hR.flat_len,lM,hq]) w0 u M hu hN,he⟩⟩
theorem q69{l:List BlkR}{b:BlkR}{rc r2:TipR}{e2:Nat}(h:j0q l=(rc,0))(hp:j2a rc b=(r2,e2)):j0q (l++[b])=if e2=0 then (r2,0)else (j27,e2):=by
 have h0:(j0q l).2=0:=by rw[h]
 have hne:l≠[]:=fun e=>by rw[e]at h0;exact absurd h0 (by decide)
 rw[j57 hne,h]
 unfold j4d
 rw[if_pos rfl,hp]
 by_cases h1:e2=0
 · rw[if_pos h1,if_pos h1,h1]
 · rw[if_neg h1,if_neg h1]
section
variable {P:Program}{Γ:HP}{ops:Array Oper}{md:Region.Mode}{w0:World}{Q:Act→j0e→Prop}{f i:Nat}{listed:Array Bool}{a:Act}{M:j0e}
theorem q5l{j k:Nat}(hr:Region.ready md ops listed=[i,j,k])(h:hOp (Γ:=Γ) P ops w0 i (j1s (Γ:=Γ) P md ops w0 Q f (listed.setIfInBounds i true)) a M)
  (h':hOp (Γ:=Γ) P ops w0 j (j1s (Γ:=Γ) P md ops w0 Q f (listed.setIfInBounds j true)) a M) (h'':hOp (Γ:=Γ) P ops w0 k (j1s (Γ:=Γ) P md ops w0 Q f (listed.setIfInBounds k true)) a M):j1s (Γ:=Γ) P md ops w0 Q (f+1) listed a M:=
 ⟨(fun h0=>by rw[hr]at h0;cases h0),(fun m hm=>by
  rw[hr]at hm
  rcases List.mem_cons.1 hm with e|e
  · cases e;exact h
  · rcases List.mem_cons.1 e with e|e
    · cases e;exact h'
    · cases mS.1 e;exact h'')⟩
end
theorem q0z(H:ChainC)(m:RowM)(b:BlkM)(w:World)(km:RowOk w m)(mm:midRowR m.r)(kb:BlkOk w b)(mb:j2c b)(ht:Tables w):
  Rz 8 #[j4e m,j1O b] w (.bool true):=by
 unfold Rz
 have HT:=hD ht
 have HH:=hD H
 have HKM:=hD km
 have HL:Hid (m.l.length=m.n):=km.l
 have HN63:Hid (m.n<9223372036854775808):=km.n63
 have HAW:Hid (Rt w 10 #[] (.bool true)):=fun u hu=>q2z H u (ht.below (EnvX.bel hu))
 have HKb:Hid (j0M b.h):=kb.h.len
 have HKB:=hD kb
 have HMB:=hD mb
 have HMR:=hD mm
 have HFM:Hid (q2o m.l=true→m.l.length≤50):=fun h=>(x0o h).2
 obtain⟨fm,hfm⟩: ∃fm,q2o m.l=fm:=⟨_,rfl⟩
 obtain⟨fb,hfb⟩: ∃fb,fewK b=fb:=⟨_,rfl⟩
 rw[hfm]at HFM
 have HFW:Hid (Rt w 11 #[.slice m.A m.n m.c] (.bool fm)):=fun u hu=>by have h:=j8u m u (km.up (EnvX.bel hu));rw[hfm]at h;exact h
 have HFB:Hid (q2o [b]=fb):=(q9X b).trans hfb
 have HCK:Hid (∀u,EnvX w u []→Calls Tryz.prog 13 #[.slice m.A m.n m.c] u fun e w'=>(∃t:TipM,e= .returned (.tuple #[j29 t, .int .i64 ((j0q m.r).2:Int)])∧IsTip (j0q m.r).1 t w')∧Below u.heap.size u w'):=fun u hu=>H.check m u (km.up (EnvX.bel hu)) mm (ht.below (EnvX.bel hu))
 have HCM:Hid (∀(t:TipM)(v:World),IsTip (j0q m.r).1 t v→j3f t∧j3W t.b.t):=fun t v h=>⟨j38 mm h,(j38 mm h).2.2.2⟩
 obtain⟨rc,ec,hrc⟩: ∃rc ec,j0q m.r=(rc,ec):=⟨_,_,rfl⟩
 rw[hrc]at HCK HCM
 simp only at HCK HCM
 have HCE:=hD hrc
 have E1:Hid (EnvX w (w.alloc (.cells (j0L b) 37)) [(w.heap.size,oc (j0L b) 37)]):=(EnvX.start w).new _
 clear ht H km mm kb mb hfm hfb hrc
 unfold j4e j1O
 go_enter func8,ntmps8
 go_upto_region 1 with (fail)
 generalize w.alloc (.cells (j0L b) 37)=W at *
 refine rgQ [0,1] [] E1 rfl fun hw=>?_
 refine qc rfl func10 (fun u hu=>HAW.out u (nl hu)) hw ?_
 refine qo rfl hw ?_
 refine enP fun u3 EX2=>?_
 go_upto_region 2 with (fail)
 refine rgQ [0,1,2] [] EX2 rfl fun hw=>?_
 refine qo rfl hw ?_
 refine qc rfl func11 (fun u hu=>HFW.out u (nl hu)) hw ?_
 refine qo rfl hw ?_
 refine enP fun u6 EX5=>?_
 go_upto_region 3 with (fail)
 refine rgQ [0] [1,2,3] EX5 rfl fun hw=>?_
 refine ql rfl mH HKb.out hw ?_
 refine j0b<|(j0k (R:=j2R 37 (j04 b)) (M0:=[(w.heap.size,oc (j0L b) 37)]) rfl rfl (fun _ h=>h) (fun u hu=>j1q j13 (j0y HKb.out) (j09 _) rfl u) ?_)
 rintro _ _ ⟨gb3,rfl,rfl⟩ hf he8;intro K' hK';go_big_quiet_op;go_big_quiet_on
 clear hf
 refine phE [2,3] [] he8 fun hw=>?_
 refine qc (args:= #[.slice (some ⟨gb3,0,none⟩) 1 1]) (v:= .bool fb) rfl func11 (fun u hu=>by have h:=j8u ⟨[b],some ⟨gb3,0,none⟩,1,1⟩ u (x2N hu mH (HKB.out.up (EnvX.bel hu)));rw[HFB.out]at h;exact h) hw ?_
 refine qo rfl hw ?_
 refine enP fun u11 EX10=>?_
 go_upto_region 4 with (fail)
 refine rgQ [0] [1,2,3,4,5,6,7] EX10 rfl fun hw=>?_
 refine qo rfl hw ?_
 refine j0b<|(j0X (gd:=none) (R:=fun x M'=> ∃tq N,x= .tuple #[.agg (j0j tq), .int .i64 (ec:Int)]∧M'=N++[(gb3,oc (j04 b).toArray 37),(w.heap.size,oc (j0L b) 37)]∧j66 w N (IsTip (rc) tq)∧ ∃vq,IsTip (rc) tq vq) rfl rfl rfl rfl (fun u hu=>j0D (fid:=13) (xs:= #[.tmp 22]) (args:= #[.slice m.A m.n m.c]) rfl func13 rfl rfl u (j62 (HCK.out u (nl hu)) hu)) ?_)
 rintro _ _ ⟨t8,N8,rfl,rfl,hk8,hv8⟩ he13;intro K' hK';go_big_quiet_op;go_big_quiet_on
 have HT8:=hD hk8
 have HV8:=hD hv8
 have HK8:Hid (j0M t8.b.h):=by obtain⟨v,hv⟩:=HV8.out;exact hv.2.b.h.len
 clear hk8 hv8
 refine phE [2,3,4] [5,6,7] he13 fun hw=>?_
 refine qw 3 hw ?_
 refine j0b<|qn rfl (j2d _) fun g8 HGg8 he15=>?_
 change j1E _ _ _ _ _ _ ((g8,oc (j0j noTipM) 41)::(N8++((gb3,oc (j04 b).toArray 37)::((w.heap.size,oc (j0L b) 37)::[]))))
 refine(sh rfl HGg8 (j0K _ (j0m HK8.out)) (j0V HK8.out) (j0R _) ?_)
 intro he16
 refine phE [7] [] he16 fun hw=>?_
 refine qo rfl hw ?_
 refine enP fun u19 EX18=>?_
 cases fm with
 |false=>
  go_upto_region 5 with (fail)
  refine rgQ [0,1,2,3,4,5,6,7,8,9,10,11,12,13] [] EX18 rfl fun hw=>?_
  refine qw 14 hw ?_
  refine enP fun u22 EX21=>?_
  go_upto_region 6 with (fail)
  refine rgQ [0,1] [] EX21 rfl fun hw=>?_
  refine qw 2 hw ?_
  refine enP fun u25 EX24=>?_
  have HBE:=hD (EnvX.bel EX24.out)
  go_wp2
  go_ret
  exact⟨rfl,HBE.out⟩
 | true=>
  cases fb with
  |false=>
   go_upto_region 5 with (fail)
   refine rgQ [0,1,2,3,4,5,6,7,8,9,10,11,12,13] [] EX18 rfl fun hw=>?_
   refine qw 14 hw ?_
   refine enP fun u22 EX21=>?_
   go_upto_region 6 with (fail)
   refine rgQ [0,1] [] EX21 rfl fun hw=>?_
   refine qw 2 hw ?_
   refine enP fun u25 EX24=>?_
   have HBE:=hD (EnvX.bel EX24.out)
   go_wp2
   go_ret
   exact⟨rfl,HBE.out⟩
  | true =>
   cases ec with
   |succ ec=>
    have D12:Hid (decide (((ec+1:Nat):Int)≠0)=true):=decide_eq_true (by omega)
    go_upto_region 5 with (fail)
    refine rgQ [0,1,2,3,4,5,6,7,8,9,10,11,12,13] [] EX18 rfl fun hw=>?_
    refine qw 12 hw ?_
    refine qv rfl (fun u hu=>j1i u D12.out rfl rfl) hw ?_
    refine qo rfl hw ?_
    refine enP fun u22 EX21=>?_
    go_upto_region 6 with (fail)
    refine rgQ [0,1] [] EX21 rfl fun hw=>?_
    refine qw 2 hw ?_
    refine enP fun u25 EX24=>?_
    have HBE:=hD (EnvX.bel EX24.out)
    go_wp2
    go_ret
    exact⟨rfl,HBE.out⟩
   | zero=>
    have D12:Hid (decide (((0:Nat):Int)≠0)=false):=decide_eq_false (by omega)
    go_upto_region 5 with (fail)
    refine rgQ [0,1,2,3,4,5,6,7,8,9,10,11,12,13] [] EX18 rfl fun hw=>?_
    refine qw 12 hw ?_
    refine qv rfl (fun u hu=>j1i u D12.out rfl rfl) hw ?_
    refine qo rfl hw ?_
    refine enP fun u22 EX21=>?_
    obtain⟨r2,e2,hp⟩: ∃r2 e2,j2a rc b.r=(r2,e2):=⟨_,_,rfl⟩
    have HPM:=hD (q69 HCE.out hp)
    have HPE:Hid (e2≠0→r2=rc):=fun h=>by
     cases e2 with
     |zero=>exact absurd rfl h
     |succ e2=>exact x07 hp
    have HT8:=HT8
    have HPU:Hid (∀(u:World)(s:TipM),EnvX w u []→IsTip rc s u→Calls Tryz.prog 36 #[j29 s,j1O b] u fun e w'=>(∃q:TipM,e= .returned (.tuple #[j29 q, .int .i64 (e2:Int)])∧IsTip r2 q w')∧Below u.heap.size u w'):=fun u s hu hs=>by
     have h:=q4P s b u hs.2 (HCM.out s u hs).1 (HKB.out.up (EnvX.bel hu)) HMB.out (HT.out.below (EnvX.bel hu))
     rw[hs.1,hp]at h
     exact h
    have HNR:Hid (midRowR (m.r++[b.r])):=⟨by rw[lA,m.r_len];have:=HFM.out rfl;show _+1≤_;omega,fun x hx=>by
     rcases List.mem_append.1 hx with h|h
     · exact HMR.out.2 x h
     · rw[mS.1 h];exact(j2D b).1 HMB.out⟩
    clear hp
    go_upto_region 7 with (fail)
    refine rgQ [0,1] [2,3,4,5,6,7,8] EX21 rfl fun hw=>?_
    refine ql rfl mH HK8.out hw ?_
    refine ql rfl (mT (mR (mT mH))) HKb.out hw ?_
    refine j0b<|(j0X (gd:=none) (R:=fun x M'=> ∃tq N,x= .tuple #[.agg (j0j tq), .int .i64 (e2:Int)]∧M'=N++((g8,oc (j0j t8) 41)::(N8++((gb3,oc (j04 b).toArray 37)::((w.heap.size,oc (j0L b) 37)::[]))))∧j66 w N (IsTip (r2) tq)∧ ∃vq,IsTip (r2) tq vq) rfl rfl rfl rfl (fun u hu=>j0D (fid:=36) (xs:= #[.tmp 42, .tmp 43]) (args:= #[j29 t8,j1O b]) rfl func36 rfl rfl u (j62 (HPU.out u t8 (nl hu) (HT8.out u _ hu (fun y MEM=>(mT (mL MEM))))) hu)) ?_)
    rintro _ _ ⟨u10,N10,rfl,rfl,hk10,hv10⟩ he24;intro K' hK';go_big_quiet_op;go_big_quiet_on
    have HT10:=hD hk10
    have HV10:=hD hv10
    have HK10:Hid (j0M u10.b.h):=by obtain⟨v,hv⟩:=HV10.out;exact hv.2.b.h.len
    clear hk10 hv10
    refine phE [3,4,5] [6,7,8] he24 fun hw=>?_
    refine qw 3 hw ?_
    refine j0b<|qn rfl (j2d _) fun g10 HGg10 he26=>?_
    change j1E _ _ _ _ _ _ ((g10,oc (j0j noTipM) 41)::(N10++((g8,oc (j0j t8) 41)::(N8++((gb3,oc (j04 b).toArray 37)::((w.heap.size,oc (j0L b) 37)::[]))))))
    refine(sh rfl HGg10 (j0K _ (j0m HK10.out)) (j0V HK10.out) (j0R _) ?_)
    intro he27
    refine phE [8] [] he27 fun hw=>?_
    refine qo rfl hw ?_
    refine enP fun u30 EX29=>?_
    have E8:Hid (EnvX w u30 ((g10,oc (j0j u10) 41)::(N10++((w.heap.size,oc (j0L b) 37)::[])))):=EnvX.sub EX29.out (fun y hy=>by
     rcases List.mem_cons.1 hy with h|hy
     · rw[h];exact mH
     · rcases List.mem_append.1 hy with MEM|hy
       · exact(mT (mL MEM))
       · cases mS.1 hy;exact(mT (mR (mT (mR (mT mH))))))
    clear EX29
    have EU:Hid (EnvX u30 u30 []):=EnvX.start _
    have HTU:Hid (Tables u30):=HT.out.below (EnvX.bel E8.out)
    have HKMU:Hid (RowOk u30 m):=HKM.out.up (EnvX.bel E8.out)
    have HKBU:Hid (BlkOk u30 b):=HKB.out.up (EnvX.bel E8.out)
    have HLB:Hid (∀u,EnvX u30 u []→(loadVar 37 ⟨w.heap.size,0,none⟩).run Tryz.prog u= .ok (j1O b) u):=fun u hu=>q2i (show EnvC w _ u from EnvX.comb E8.out hu) (mR (mT (mR mH))) HKb.out
    obtain⟨r3,e3,hc3⟩: ∃r3 e3,j0q (m.r++[b.r])=(r3,e3):=⟨_,_,rfl⟩
    rw[hc3]at HPM
    have HC3:=hD hc3
    clear hc3
    have HFL:Hid ((m.l.map j04).flatten.length=m.n*137):=q8a HKM.out
    have HON:Hid (∀v∈(m.l.map j04).flatten,v.oneCell'=true):=fun v hv=>by
     obtain⟨y,hy,hv⟩:=List.mem_flatten.1 hv
     obtain⟨t,ht,rfl⟩:=List.mem_map.1 hy
     exact j09 t v hv
    have HS2:Hid (m.n≤2000000∧m.n+1≤2000000):=by have:=HFM.out rfl;have:=HL.out;show _∧_;omega
    go_upto_region 8 with (fail)
    go_cut [12,13] (fun v12 v13 wx=> ∃g12 u12,v12= .pointer (some ⟨g12,0,none⟩)∧v13= .int .i64 (e3:Int)∧Hid (∃N12,KeptA N12 (IsTip r3 u12)∧(∃v,IsTip r3 u12 v)∧EnvX w wx ((g12,oc (j0j u12) 41)::(N12++((g10,oc (j0j u10) 41)::(N10++((w.heap.size,oc (j0L b) 37)::[])))))))
    case first=>
     refine j7v (w0:=u30) [] (by kernel_rfl) EU.out ?_
     refine j0P [0,2] 10 rfl (by kernel_rfl) ?_
     have hw301:EnvX u30 _ []:=EnvX.sub (EnvX.drew EU.out) (fun _ h=>by cases h)
     have hone:= @EnvC.one _ _ _ hw301
     refine qo rfl ⟨_,hw301⟩ ?_
     refine qv rfl (fun u hu=>j0a u (HLB.out u hu) rfl) ⟨_,hw301⟩ ?_
     clear hone hw301
     refine j0b<|q5l (i:=1) (j:=3) (k:=9) (by kernel_rfl) ?_ ?_ ?_
     · skip
       refine(j0k (R:=FreshR 37 137 m.n (m.l.map j04).flatten) (M0:=[]) rfl rfl (fun _ h=>h) (fun u hu=>j5M j13 HFL.out HON.out (HKMU.out.m.cells.up (EnvX.bel hu)) HS2.out.1 rfl) ?_)
       rintro x1 N1 hF1 hf he302;intro K' hK';go_big_quiet_op;go_big_quiet_on
       obtain⟨A1,c1,rfl,-,-⟩:=FreshR.formR hF1
       have HF1:=hD hF1
       have HN1:=hD hf
       clear hF1
       clear hf
       change j1s _ _ _ _ _ _ _ _ (N1++[])
       refine j2L (i:=3) (j:=9) (by kernel_rfl) ?_ ?_
       · skip
         refine(j0k (R:=j2R 37 (j04 b)) (M0:=(N1++[])) rfl rfl (fun _ h=>h) (fun u hu=>j1q j13 (j0y HKb.out) (j09 _) rfl u) ?_)
         rintro _ _ ⟨gb,rfl,rfl⟩ hf he303;intro K' hK';go_big_quiet_op;go_big_quiet_on
         clear hf
         change j1s _ _ _ _ _ _ _ _ ((gb,oc (j04 b).toArray 37)::(N1++[]))
         refine j2L (i:=4) (j:=9) (by kernel_rfl) ?_ ?_
         · skip
           refine(j03 (gd:=none) (R:=j1N u30 37 137 (m.n+1) ((m.l.map j04).flatten++j04 b) []) rfl rfl rfl rfl (fun u hu=>j1H j13 (m:=1) [] hu HFL.out (by rw[Nat.one_mul];exact j0y HKb.out) (j09 _) HF1.out (fun y MEM=>⟨(mT (mL MEM)),(HN1.out y MEM).1⟩) (j1p (k:=0) hu mH (by rw[List.drop_zero,List.take_length])) (fun _ h=>by cases h) HS2.out.2 rfl rfl) ?_)
           rintro x9 M'9 ⟨N9,rfl,hF9,hn9⟩ he304;intro K' hK';go_big_quiet_op;go_big_quiet_on
           obtain⟨A9,c9,rfl,k1,k2⟩:=FreshR.formR hF9
           have HR9:Hid (∀u M,EnvX u30 u M→(∀y∈N9,y∈M)→RowOk u ⟨m.l++[b],A9,m.n+1,c9⟩):=fun u M hu hM=>j4N hu hM (by rw[List.map_append,List.flatten_append,List.map_singleton,List.flatten_singleton];exact hF9) (by rw[lA,HL.out];rfl) ⟨k1,k2⟩ (fun t ht=>(List.mem_append.1 ht).elim (fun h=>((HKMU.out.m.each t h).up (EnvX.bel hu))) (fun h=>by cases mS.1 h;exact HKBU.out.up (EnvX.bel hu)))
           clear hF9 hn9 k1 k2
           change j1s _ _ _ _ _ _ _ _ (N9++[])
           refine j2L (i:=5) (j:=9) (by kernel_rfl) ?_ ?_
           · skip
             refine(j0X (gd:=none) (R:=fun xv M'=> ∃tq Nq,xv= .tuple #[.agg (j0j tq), .int .i64 (e3:Int)]∧M'=Nq++(N9++[])∧KeptA Nq (IsTip r3 tq)∧(∃v,IsTip r3 tq v)∧ ∀z∈Nq,∀x∈([]:j0e),z.1≠x.1) rfl rfl rfl rfl (fun u hu=>j0D (fid:=13) (xs:= #[.tmp 52]) (args:= #[.slice A9 (m.n+1) c9]) rfl func13 rfl rfl u (j1t (g:=fun k=> ∀x∈([]:j0e),k≠x.1) (by have h:=j1G [] ⟨m.l++[b],A9,m.n+1,c9⟩ u (fun y hy=>by cases hy) (HR9.out u _ hu (fun y MEM=>(mL MEM))) (by rw[show RowM.r ⟨m.l++[b],A9,m.n+1,c9⟩=m.r++[b.r]from j1Q _ _];exact HNR.out) (HTU.out.below (EnvX.bel hu));rw[show RowM.r ⟨m.l++[b],A9,m.n+1,c9⟩=m.r++[b.r]from j1Q _ _,HC3.out]at h;exact h) hu)) ?_)
             rintro xv_ M'_ ⟨u12,N12,rfl,rfl,hk12,hv12,hn12⟩ he305;intro K' hK';go_big_quiet_op;go_big_quiet_on
             have HT12:=hD hk12
             have HV12:=hD hv12
             have HN12:=hD hn12
             have HK12:Hid (j0M u12.b.h):=by obtain⟨v,hv⟩:=HV12.out;exact hv.2.b.h.len
             clear hk12 hv12 hn12
             change j1s _ _ _ _ _ _ _ _ (N12++(N9++[]))
             refine j0P [6,7,8] 3 rfl (by kernel_rfl) ?_
             have hw306:EnvX u30 _ []:=EnvX.sub he305.choose_spec (fun _ h=>by cases h)
             have hone:= @EnvC.one _ _ _ hw306
             iterate 3 refine qo rfl ⟨_,hw306⟩ ?_
             clear hone hw306
             refine j0b<|aO 9 (qn rfl (j2d _) fun g12 HG12 he307=>?_)
             change j1s _ _ _ _ _ _ _ _ ((g12,oc (j0j noTipM) 41)::(N12++(N9++[])))
             refine aO 10 (j0z rfl (g12) (j0j u12) rfl rfl HG12.out.1 41 ((j0j noTipM)) mH (j0K _ (j0m HK12.out)) (j0V HK12.out) (j0R _) ((g12,oc (j0j u12) 41)::(N12++[])) (mA ⟨.inl rfl,(List.forall_mem_append.2 ⟨fun z MEM=> .inr ⟨(mT (mL MEM)),HG12.out.2 z (mL MEM)⟩,(fun _ h=>by cases h)⟩)⟩) ?_)
             intro he308
             refine j0P [11] 0 rfl (by kernel_rfl) ?_
             have hw309:EnvX u30 _ []:=EnvX.sub he308.choose_spec (fun _ h=>by cases h)
             have hone:= @EnvC.one _ _ _ hw309
             refine qo rfl ⟨_,hw309⟩ ?_
             clear hone hw309;refine eH fun u311 EX310=>?_
             go_wp2_with fail
             go_meet
             exact⟨g12,u12,rfl,rfl,N12,HT12.out,HV12.out,by have h:=EnvX.comb E8.out EX310.out;simpa only[List.append_nil,List.cons_append,aA] using h⟩
           · skip
             refine qn rfl (j2d _) fun g12 HG12 he312=>?_
             change j1s _ _ _ _ _ _ _ _ ((g12,oc (j0j noTipM) 41)::(N9++[]))
             refine aO 5 (j0X (gd:=none) (R:=fun xv M'=> ∃tq Nq,xv= .tuple #[.agg (j0j tq), .int .i64 (e3:Int)]∧M'=Nq++((g12,oc (j0j noTipM) 41)::(N9++[]))∧KeptA Nq (IsTip r3 tq)∧(∃v,IsTip r3 tq v)∧ ∀z∈Nq,∀x∈([(g12,oc (j0j noTipM) 41)]:j0e),z.1≠x.1) rfl rfl rfl rfl (fun u hu=>j0D (fid:=13) (xs:= #[.tmp 52]) (args:= #[.slice A9 (m.n+1) c9]) rfl func13 rfl rfl u (j1t (g:=fun k=> ∀x∈([(g12,oc (j0j noTipM) 41)]:j0e),k≠x.1) (by have h:=j1G [(g12,oc (j0j noTipM) 41)] ⟨m.l++[b],A9,m.n+1,c9⟩ u (fun y hy=>by cases mS.1 hy;exact⟨EnvX.box hu _ _ mH,_,rfl⟩) (HR9.out u _ hu (fun y MEM=>(mT (mL MEM)))) (by rw[show RowM.r ⟨m.l++[b],A9,m.n+1,c9⟩=m.r++[b.r]from j1Q _ _];exact HNR.out) (HTU.out.below (EnvX.bel hu));rw[show RowM.r ⟨m.l++[b],A9,m.n+1,c9⟩=m.r++[b.r]from j1Q _ _,HC3.out]at h;exact h) hu)) ?_)
             rintro xv_ M'_ ⟨u12,N12,rfl,rfl,hk12,hv12,hn12⟩ he313;intro K' hK';go_big_quiet_op;go_big_quiet_on
             have HT12:=hD hk12
             have HV12:=hD hv12
             have HN12:=hD hn12
             have HK12:Hid (j0M u12.b.h):=by obtain⟨v,hv⟩:=HV12.out;exact hv.2.b.h.len
             clear hk12 hv12 hn12
             change j1s _ _ _ _ _ _ _ _ (N12++((g12,oc (j0j noTipM) 41)::(N9++[])))
             refine j0P [6,7,8] 2 rfl (by kernel_rfl) ?_
             have hw314:EnvX u30 _ []:=EnvX.sub he313.choose_spec (fun _ h=>by cases h)
             have hone:= @EnvC.one _ _ _ hw314
             iterate 3 refine qo rfl ⟨_,hw314⟩ ?_
             clear hone hw314
             refine j0b<|aO 10 (j0z rfl (g12) (j0j u12) rfl rfl HG12.out.1 41 ((j0j noTipM)) (mR mH) (j0K _ (j0m HK12.out)) (j0V HK12.out) (j0R _) ((g12,oc (j0j u12) 41)::(N12++[])) (mA ⟨.inl rfl,(List.forall_mem_append.2 ⟨fun z MEM=> .inr ⟨(mL MEM),HN12.out z MEM _ mH⟩,(fun _ h=>by cases h)⟩)⟩) ?_)
             intro he315
             refine j0P [11] 0 rfl (by kernel_rfl) ?_
             have hw316:EnvX u30 _ []:=EnvX.sub he315.choose_spec (fun _ h=>by cases h)
             have hone:= @EnvC.one _ _ _ hw316
             refine qo rfl ⟨_,hw316⟩ ?_
             clear hone hw316;refine eH fun u318 EX317=>?_
             go_wp2_with fail
             go_meet
             exact⟨g12,u12,rfl,rfl,N12,HT12.out,HV12.out,by have h:=EnvX.comb E8.out EX317.out;simpa only[List.append_nil,List.cons_append,aA] using h⟩
         · skip
           refine qn rfl (j2d _) fun g12 HG12 he319=>?_
           change j1s _ _ _ _ _ _ _ _ ((g12,oc (j0j noTipM) 41)::((gb,oc (j04 b).toArray 37)::(N1++[])))
           refine aO 4 (j03 (gd:=none) (R:=j1N u30 37 137 (m.n+1) ((m.l.map j04).flatten++j04 b) [(g12,oc (j0j noTipM) 41)]) rfl rfl rfl rfl (fun u hu=>j1H j13 (m:=1) [(g12,oc (j0j noTipM) 41)] hu HFL.out (by rw[Nat.one_mul];exact j0y HKb.out) (j09 _) HF1.out (fun y MEM=>⟨(mT (mT (mL MEM))),(HN1.out y MEM).1⟩) (j1p (k:=0) hu (mT mH) (by rw[List.drop_zero,List.take_length])) (mA ⟨⟨mH,fun y hy=>fun e=>HG12.out.2 y (mT (mL hy)) e.symm⟩,(fun _ h=>by cases h)⟩) HS2.out.2 rfl rfl) ?_)
           rintro x9 M'9 ⟨N9,rfl,hF9,hn9⟩ he320;intro K' hK';go_big_quiet_op;go_big_quiet_on
           obtain⟨A9,c9,rfl,k1,k2⟩:=FreshR.formR hF9
           have HR9:Hid (∀u M,EnvX u30 u M→(∀y∈N9,y∈M)→RowOk u ⟨m.l++[b],A9,m.n+1,c9⟩):=fun u M hu hM=>j4N hu hM (by rw[List.map_append,List.flatten_append,List.map_singleton,List.flatten_singleton];exact hF9) (by rw[lA,HL.out];rfl) ⟨k1,k2⟩ (fun t ht=>(List.mem_append.1 ht).elim (fun h=>((HKMU.out.m.each t h).up (EnvX.bel hu))) (fun h=>by cases mS.1 h;exact HKBU.out.up (EnvX.bel hu)))
           clear hF9 hn9 k1 k2
           change j1s _ _ _ _ _ _ _ _ (N9++((g12,oc (j0j noTipM) 41)::[]))
           refine aO 5 (j0X (gd:=none) (R:=fun xv M'=> ∃tq Nq,xv= .tuple #[.agg (j0j tq), .int .i64 (e3:Int)]∧M'=Nq++(N9++((g12,oc (j0j noTipM) 41)::[]))∧KeptA Nq (IsTip r3 tq)∧(∃v,IsTip r3 tq v)∧ ∀z∈Nq,∀x∈([(g12,oc (j0j noTipM) 41)]:j0e),z.1≠x.1) rfl rfl rfl rfl (fun u hu=>j0D (fid:=13) (xs:= #[.tmp 52]) (args:= #[.slice A9 (m.n+1) c9]) rfl func13 rfl rfl u (j1t (g:=fun k=> ∀x∈([(g12,oc (j0j noTipM) 41)]:j0e),k≠x.1) (by have h:=j1G [(g12,oc (j0j noTipM) 41)] ⟨m.l++[b],A9,m.n+1,c9⟩ u (fun y hy=>by cases mS.1 hy;exact⟨EnvX.box hu _ _ (mR mH),_,rfl⟩) (HR9.out u _ hu (fun y MEM=>(mL MEM))) (by rw[show RowM.r ⟨m.l++[b],A9,m.n+1,c9⟩=m.r++[b.r]from j1Q _ _];exact HNR.out) (HTU.out.below (EnvX.bel hu));rw[show RowM.r ⟨m.l++[b],A9,m.n+1,c9⟩=m.r++[b.r]from j1Q _ _,HC3.out]at h;exact h) hu)) ?_)
           rintro xv_ M'_ ⟨u12,N12,rfl,rfl,hk12,hv12,hn12⟩ he321;intro K' hK';go_big_quiet_op;go_big_quiet_on
           have HT12:=hD hk12
           have HV12:=hD hv12
           have HN12:=hD hn12
           have HK12:Hid (j0M u12.b.h):=by obtain⟨v,hv⟩:=HV12.out;exact hv.2.b.h.len
           clear hk12 hv12 hn12
           change j1s _ _ _ _ _ _ _ _ (N12++(N9++((g12,oc (j0j noTipM) 41)::[])))
           refine j0P [6,7,8] 2 rfl (by kernel_rfl) ?_
           have hw322:EnvX u30 _ []:=EnvX.sub he321.choose_spec (fun _ h=>by cases h)
           have hone:= @EnvC.one _ _ _ hw322
           iterate 3 refine qo rfl ⟨_,hw322⟩ ?_
           clear hone hw322
           refine j0b<|aO 10 (j0z rfl (g12) (j0j u12) rfl rfl HG12.out.1 41 ((j0j noTipM)) (mR (mR mH)) (j0K _ (j0m HK12.out)) (j0V HK12.out) (j0R _) ((g12,oc (j0j u12) 41)::(N12++[])) (mA ⟨.inl rfl,(List.forall_mem_append.2 ⟨fun z MEM=> .inr ⟨(mL MEM),HN12.out z MEM _ mH⟩,(fun _ h=>by cases h)⟩)⟩) ?_)
           intro he323
           refine j0P [11] 0 rfl (by kernel_rfl) ?_
           have hw324:EnvX u30 _ []:=EnvX.sub he323.choose_spec (fun _ h=>by cases h)
           have hone:= @EnvC.one _ _ _ hw324
           refine qo rfl ⟨_,hw324⟩ ?_
           clear hone hw324;refine eH fun u326 EX325=>?_
           go_wp2_with fail
           go_meet
           exact⟨g12,u12,rfl,rfl,N12,HT12.out,HV12.out,by have h:=EnvX.comb E8.out EX325.out;simpa only[List.append_nil,List.cons_append,aA] using h⟩
       · skip
         refine qn rfl (j2d _) fun g12 HG12 he327=>?_
         change j1s _ _ _ _ _ _ _ _ ((g12,oc (j0j noTipM) 41)::(N1++[]))
         refine aO 3 (j0k (R:=j2R 37 (j04 b)) (M0:=((g12,oc (j0j noTipM) 41)::(N1++[]))) rfl rfl (fun _ h=>h) (fun u hu=>j1q j13 (j0y HKb.out) (j09 _) rfl u) ?_)
         rintro _ _ ⟨gb,rfl,rfl⟩ hf he328;intro K' hK';go_big_quiet_op;go_big_quiet_on
         clear hf
         change j1s _ _ _ _ _ _ _ _ ((gb,oc (j04 b).toArray 37)::((g12,oc (j0j noTipM) 41)::(N1++[])))
         refine aO 4 (j03 (gd:=none) (R:=j1N u30 37 137 (m.n+1) ((m.l.map j04).flatten++j04 b) [(g12,oc (j0j noTipM) 41)]) rfl rfl rfl rfl (fun u hu=>j1H j13 (m:=1) [(g12,oc (j0j noTipM) 41)] hu HFL.out (by rw[Nat.one_mul];exact j0y HKb.out) (j09 _) HF1.out (fun y MEM=>⟨(mT (mT (mL MEM))),(HN1.out y MEM).1⟩) (j1p (k:=0) hu mH (by rw[List.drop_zero,List.take_length])) (mA ⟨⟨(mT mH),fun y hy=>fun e=>HG12.out.2 y (mL hy) e.symm⟩,(fun _ h=>by cases h)⟩) HS2.out.2 rfl rfl) ?_)
         rintro x9 M'9 ⟨N9,rfl,hF9,hn9⟩ he329;intro K' hK';go_big_quiet_op;go_big_quiet_on
         obtain⟨A9,c9,rfl,k1,k2⟩:=FreshR.formR hF9
         have HR9:Hid (∀u M,EnvX u30 u M→(∀y∈N9,y∈M)→RowOk u ⟨m.l++[b],A9,m.n+1,c9⟩):=fun u M hu hM=>j4N hu hM (by rw[List.map_append,List.flatten_append,List.map_singleton,List.flatten_singleton];exact hF9) (by rw[lA,HL.out];rfl) ⟨k1,k2⟩ (fun t ht=>(List.mem_append.1 ht).elim (fun h=>((HKMU.out.m.each t h).up (EnvX.bel hu))) (fun h=>by cases mS.1 h;exact HKBU.out.up (EnvX.bel hu)))
         clear hF9 hn9 k1 k2
         change j1s _ _ _ _ _ _ _ _ (N9++((g12,oc (j0j noTipM) 41)::[]))
         refine aO 5 (j0X (gd:=none) (R:=fun xv M'=> ∃tq Nq,xv= .tuple #[.agg (j0j tq), .int .i64 (e3:Int)]∧M'=Nq++(N9++((g12,oc (j0j noTipM) 41)::[]))∧KeptA Nq (IsTip r3 tq)∧(∃v,IsTip r3 tq v)∧ ∀z∈Nq,∀x∈([(g12,oc (j0j noTipM) 41)]:j0e),z.1≠x.1) rfl rfl rfl rfl (fun u hu=>j0D (fid:=13) (xs:= #[.tmp 52]) (args:= #[.slice A9 (m.n+1) c9]) rfl func13 rfl rfl u (j1t (g:=fun k=> ∀x∈([(g12,oc (j0j noTipM) 41)]:j0e),k≠x.1) (by have h:=j1G [(g12,oc (j0j noTipM) 41)] ⟨m.l++[b],A9,m.n+1,c9⟩ u (fun y hy=>by cases mS.1 hy;exact⟨EnvX.box hu _ _ (mR mH),_,rfl⟩) (HR9.out u _ hu (fun y MEM=>(mL MEM))) (by rw[show RowM.r ⟨m.l++[b],A9,m.n+1,c9⟩=m.r++[b.r]from j1Q _ _];exact HNR.out) (HTU.out.below (EnvX.bel hu));rw[show RowM.r ⟨m.l++[b],A9,m.n+1,c9⟩=m.r++[b.r]from j1Q _ _,HC3.out]at h;exact h) hu)) ?_)
         rintro xv_ M'_ ⟨u12,N12,rfl,rfl,hk12,hv12,hn12⟩ he330;intro K' hK';go_big_quiet_op;go_big_quiet_on
         have HT12:=hD hk12
         have HV12:=hD hv12
         have HN12:=hD hn12
         have HK12:Hid (j0M u12.b.h):=by obtain⟨v,hv⟩:=HV12.out;exact hv.2.b.h.len
         clear hk12 hv12 hn12
         change j1s _ _ _ _ _ _ _ _ (N12++(N9++((g12,oc (j0j noTipM) 41)::[])))
         refine j0P [6,7,8] 2 rfl (by kernel_rfl) ?_
         have hw331:EnvX u30 _ []:=EnvX.sub he330.choose_spec (fun _ h=>by cases h)
         have hone:= @EnvC.one _ _ _ hw331
         iterate 3 refine qo rfl ⟨_,hw331⟩ ?_
         clear hone hw331
         refine j0b<|aO 10 (j0z rfl (g12) (j0j u12) rfl rfl HG12.out.1 41 ((j0j noTipM)) (mR (mR mH)) (j0K _ (j0m HK12.out)) (j0V HK12.out) (j0R _) ((g12,oc (j0j u12) 41)::(N12++[])) (mA ⟨.inl rfl,(List.forall_mem_append.2 ⟨fun z MEM=> .inr ⟨(mL MEM),HN12.out z MEM _ mH⟩,(fun _ h=>by cases h)⟩)⟩) ?_)
         intro he332
         refine j0P [11] 0 rfl (by kernel_rfl) ?_
         have hw333:EnvX u30 _ []:=EnvX.sub he332.choose_spec (fun _ h=>by cases h)
         have hone:= @EnvC.one _ _ _ hw333
         refine qo rfl ⟨_,hw333⟩ ?_
         clear hone hw333;refine eH fun u335 EX334=>?_
         go_wp2_with fail
         go_meet
         exact⟨g12,u12,rfl,rfl,N12,HT12.out,HV12.out,by have h:=EnvX.comb E8.out EX334.out;simpa only[List.append_nil,List.cons_append,aA] using h⟩
     · skip
       refine(j0k (R:=j2R 37 (j04 b)) (M0:=[]) rfl rfl (fun _ h=>h) (fun u hu=>j1q j13 (j0y HKb.out) (j09 _) rfl u) ?_)
       rintro _ _ ⟨gb,rfl,rfl⟩ hf he336;intro K' hK';go_big_quiet_op;go_big_quiet_on
       clear hf
       change j1s _ _ _ _ _ _ _ _ [(gb,oc (j04 b).toArray 37)]
       refine j2L (i:=1) (j:=9) (by kernel_rfl) ?_ ?_
       · skip
         refine(j0k (R:=FreshR 37 137 m.n (m.l.map j04).flatten) (M0:=[(gb,oc (j04 b).toArray 37)]) rfl rfl (fun _ h=>h) (fun u hu=>j5M j13 HFL.out HON.out (HKMU.out.m.cells.up (EnvX.bel hu)) HS2.out.1 rfl) ?_)
         rintro x1 N1 hF1 hf he337;intro K' hK';go_big_quiet_op;go_big_quiet_on
         obtain⟨A1,c1,rfl,-,-⟩:=FreshR.formR hF1
         have HF1:=hD hF1
         have HN1:=hD hf
         clear hF1
         clear hf
         change j1s _ _ _ _ _ _ _ _ (N1++((gb,oc (j04 b).toArray 37)::[]))
         refine j2L (i:=4) (j:=9) (by kernel_rfl) ?_ ?_
         · skip
           refine(j03 (gd:=none) (R:=j1N u30 37 137 (m.n+1) ((m.l.map j04).flatten++j04 b) []) rfl rfl rfl rfl (fun u hu=>j1H j13 (m:=1) [] hu HFL.out (by rw[Nat.one_mul];exact j0y HKb.out) (j09 _) HF1.out (fun y MEM=>⟨(mL MEM),(HN1.out y MEM).1⟩) (j1p (k:=0) hu (mR mH) (by rw[List.drop_zero,List.take_length])) (fun _ h=>by cases h) HS2.out.2 rfl rfl) ?_)
           rintro x9 M'9 ⟨N9,rfl,hF9,hn9⟩ he338;intro K' hK';go_big_quiet_op;go_big_quiet_on
           obtain⟨A9,c9,rfl,k1,k2⟩:=FreshR.formR hF9
           have HR9:Hid (∀u M,EnvX u30 u M→(∀y∈N9,y∈M)→RowOk u ⟨m.l++[b],A9,m.n+1,c9⟩):=fun u M hu hM=>j4N hu hM (by rw[List.map_append,List.flatten_append,List.map_singleton,List.flatten_singleton];exact hF9) (by rw[lA,HL.out];rfl) ⟨k1,k2⟩ (fun t ht=>(List.mem_append.1 ht).elim (fun h=>((HKMU.out.m.each t h).up (EnvX.bel hu))) (fun h=>by cases mS.1 h;exact HKBU.out.up (EnvX.bel hu)))
           clear hF9 hn9 k1 k2
           change j1s _ _ _ _ _ _ _ _ (N9++[])
           refine j2L (i:=5) (j:=9) (by kernel_rfl) ?_ ?_
           · skip
             refine(j0X (gd:=none) (R:=fun xv M'=> ∃tq Nq,xv= .tuple #[.agg (j0j tq), .int .i64 (e3:Int)]∧M'=Nq++(N9++[])∧KeptA Nq (IsTip r3 tq)∧(∃v,IsTip r3 tq v)∧ ∀z∈Nq,∀x∈([]:j0e),z.1≠x.1) rfl rfl rfl rfl (fun u hu=>j0D (fid:=13) (xs:= #[.tmp 52]) (args:= #[.slice A9 (m.n+1) c9]) rfl func13 rfl rfl u (j1t (g:=fun k=> ∀x∈([]:j0e),k≠x.1) (by have h:=j1G [] ⟨m.l++[b],A9,m.n+1,c9⟩ u (fun y hy=>by cases hy) (HR9.out u _ hu (fun y MEM=>(mL MEM))) (by rw[show RowM.r ⟨m.l++[b],A9,m.n+1,c9⟩=m.r++[b.r]from j1Q _ _];exact HNR.out) (HTU.out.below (EnvX.bel hu));rw[show RowM.r ⟨m.l++[b],A9,m.n+1,c9⟩=m.r++[b.r]from j1Q _ _,HC3.out]at h;exact h) hu)) ?_)
             rintro xv_ M'_ ⟨u12,N12,rfl,rfl,hk12,hv12,hn12⟩ he339;intro K' hK';go_big_quiet_op;go_big_quiet_on
             have HT12:=hD hk12
             have HV12:=hD hv12
             have HN12:=hD hn12
             have HK12:Hid (j0M u12.b.h):=by obtain⟨v,hv⟩:=HV12.out;exact hv.2.b.h.len
             clear hk12 hv12 hn12
             change j1s _ _ _ _ _ _ _ _ (N12++(N9++[]))
             refine j0P [6,7,8] 3 rfl (by kernel_rfl) ?_
             have hw340:EnvX u30 _ []:=EnvX.sub he339.choose_spec (fun _ h=>by cases h)
             have hone:= @EnvC.one _ _ _ hw340
             iterate 3 refine qo rfl ⟨_,hw340⟩ ?_
             clear hone hw340
             refine j0b<|aO 9 (qn rfl (j2d _) fun g12 HG12 he341=>?_)
             change j1s _ _ _ _ _ _ _ _ ((g12,oc (j0j noTipM) 41)::(N12++(N9++[])))
             refine aO 10 (j0z rfl (g12) (j0j u12) rfl rfl HG12.out.1 41 ((j0j noTipM)) mH (j0K _ (j0m HK12.out)) (j0V HK12.out) (j0R _) ((g12,oc (j0j u12) 41)::(N12++[])) (mA ⟨.inl rfl,(List.forall_mem_append.2 ⟨fun z MEM=> .inr ⟨(mT (mL MEM)),HG12.out.2 z (mL MEM)⟩,(fun _ h=>by cases h)⟩)⟩) ?_)
             intro he342
             refine j0P [11] 0 rfl (by kernel_rfl) ?_
             have hw343:EnvX u30 _ []:=EnvX.sub he342.choose_spec (fun _ h=>by cases h)
             have hone:= @EnvC.one _ _ _ hw343
             refine qo rfl ⟨_,hw343⟩ ?_
             clear hone hw343;refine eH fun u345 EX344=>?_
             go_wp2_with fail
             go_meet
             exact⟨g12,u12,rfl,rfl,N12,HT12.out,HV12.out,by have h:=EnvX.comb E8.out EX344.out;simpa only[List.append_nil,List.cons_append,aA] using h⟩
           · skip
             refine qn rfl (j2d _) fun g12 HG12 he346=>?_
             change j1s _ _ _ _ _ _ _ _ ((g12,oc (j0j noTipM) 41)::(N9++[]))
             refine aO 5 (j0X (gd:=none) (R:=fun xv M'=> ∃tq Nq,xv= .tuple #[.agg (j0j tq), .int .i64 (e3:Int)]∧M'=Nq++((g12,oc (j0j noTipM) 41)::(N9++[]))∧KeptA Nq (IsTip r3 tq)∧(∃v,IsTip r3 tq v)∧ ∀z∈Nq,∀x∈([(g12,oc (j0j noTipM) 41)]:j0e),z.1≠x.1) rfl rfl rfl rfl (fun u hu=>j0D (fid:=13) (xs:= #[.tmp 52]) (args:= #[.slice A9 (m.n+1) c9]) rfl func13 rfl rfl u (j1t (g:=fun k=> ∀x∈([(g12,oc (j0j noTipM) 41)]:j0e),k≠x.1) (by have h:=j1G [(g12,oc (j0j noTipM) 41)] ⟨m.l++[b],A9,m.n+1,c9⟩ u (fun y hy=>by cases mS.1 hy;exact⟨EnvX.box hu _ _ mH,_,rfl⟩) (HR9.out u _ hu (fun y MEM=>(mT (mL MEM)))) (by rw[show RowM.r ⟨m.l++[b],A9,m.n+1,c9⟩=m.r++[b.r]from j1Q _ _];exact HNR.out) (HTU.out.below (EnvX.bel hu));rw[show RowM.r ⟨m.l++[b],A9,m.n+1,c9⟩=m.r++[b.r]from j1Q _ _,HC3.out]at h;exact h) hu)) ?_)
             rintro xv_ M'_ ⟨u12,N12,rfl,rfl,hk12,hv12,hn12⟩ he347;intro K' hK';go_big_quiet_op;go_big_quiet_on
             have HT12:=hD hk12
             have HV12:=hD hv12
             have HN12:=hD hn12
             have HK12:Hid (j0M u12.b.h):=by obtain⟨v,hv⟩:=HV12.out;exact hv.2.b.h.len
             clear hk12 hv12 hn12
             change j1s _ _ _ _ _ _ _ _ (N12++((g12,oc (j0j noTipM) 41)::(N9++[])))
             refine j0P [6,7,8] 2 rfl (by kernel_rfl) ?_
             have hw348:EnvX u30 _ []:=EnvX.sub he347.choose_spec (fun _ h=>by cases h)
             have hone:= @EnvC.one _ _ _ hw348
             iterate 3 refine qo rfl ⟨_,hw348⟩ ?_
             clear hone hw348
             refine j0b<|aO 10 (j0z rfl (g12) (j0j u12) rfl rfl HG12.out.1 41 ((j0j noTipM)) (mR mH) (j0K _ (j0m HK12.out)) (j0V HK12.out) (j0R _) ((g12,oc (j0j u12) 41)::(N12++[])) (mA ⟨.inl rfl,(List.forall_mem_append.2 ⟨fun z MEM=> .inr ⟨(mL MEM),HN12.out z MEM _ mH⟩,(fun _ h=>by cases h)⟩)⟩) ?_)
             intro he349
             refine j0P [11] 0 rfl (by kernel_rfl) ?_
             have hw350:EnvX u30 _ []:=EnvX.sub he349.choose_spec (fun _ h=>by cases h)
             have hone:= @EnvC.one _ _ _ hw350
             refine qo rfl ⟨_,hw350⟩ ?_
             clear hone hw350;refine eH fun u352 EX351=>?_
             go_wp2_with fail
             go_meet
             exact⟨g12,u12,rfl,rfl,N12,HT12.out,HV12.out,by have h:=EnvX.comb E8.out EX351.out;simpa only[List.append_nil,List.cons_append,aA] using h⟩
         · skip
           refine qn rfl (j2d _) fun g12 HG12 he353=>?_
           change j1s _ _ _ _ _ _ _ _ ((g12,oc (j0j noTipM) 41)::(N1++((gb,oc (j04 b).toArray 37)::[])))
           refine aO 4 (j03 (gd:=none) (R:=j1N u30 37 137 (m.n+1) ((m.l.map j04).flatten++j04 b) [(g12,oc (j0j noTipM) 41)]) rfl rfl rfl rfl (fun u hu=>j1H j13 (m:=1) [(g12,oc (j0j noTipM) 41)] hu HFL.out (by rw[Nat.one_mul];exact j0y HKb.out) (j09 _) HF1.out (fun y MEM=>⟨(mT (mL MEM)),(HN1.out y MEM).1⟩) (j1p (k:=0) hu (mT (mR mH)) (by rw[List.drop_zero,List.take_length])) (mA ⟨⟨mH,fun y hy=>fun e=>HG12.out.2 y (mL hy) e.symm⟩,(fun _ h=>by cases h)⟩) HS2.out.2 rfl rfl) ?_)
           rintro x9 M'9 ⟨N9,rfl,hF9,hn9⟩ he354;intro K' hK';go_big_quiet_op;go_big_quiet_on
           obtain⟨A9,c9,rfl,k1,k2⟩:=FreshR.formR hF9
           have HR9:Hid (∀u M,EnvX u30 u M→(∀y∈N9,y∈M)→RowOk u ⟨m.l++[b],A9,m.n+1,c9⟩):=fun u M hu hM=>j4N hu hM (by rw[List.map_append,List.flatten_append,List.map_singleton,List.flatten_singleton];exact hF9) (by rw[lA,HL.out];rfl) ⟨k1,k2⟩ (fun t ht=>(List.mem_append.1 ht).elim (fun h=>((HKMU.out.m.each t h).up (EnvX.bel hu))) (fun h=>by cases mS.1 h;exact HKBU.out.up (EnvX.bel hu)))
           clear hF9 hn9 k1 k2
           change j1s _ _ _ _ _ _ _ _ (N9++((g12,oc (j0j noTipM) 41)::[]))
           refine aO 5 (j0X (gd:=none) (R:=fun xv M'=> ∃tq Nq,xv= .tuple #[.agg (j0j tq), .int .i64 (e3:Int)]∧M'=Nq++(N9++((g12,oc (j0j noTipM) 41)::[]))∧KeptA Nq (IsTip r3 tq)∧(∃v,IsTip r3 tq v)∧ ∀z∈Nq,∀x∈([(g12,oc (j0j noTipM) 41)]:j0e),z.1≠x.1) rfl rfl rfl rfl (fun u hu=>j0D (fid:=13) (xs:= #[.tmp 52]) (args:= #[.slice A9 (m.n+1) c9]) rfl func13 rfl rfl u (j1t (g:=fun k=> ∀x∈([(g12,oc (j0j noTipM) 41)]:j0e),k≠x.1) (by have h:=j1G [(g12,oc (j0j noTipM) 41)] ⟨m.l++[b],A9,m.n+1,c9⟩ u (fun y hy=>by cases mS.1 hy;exact⟨EnvX.box hu _ _ (mR mH),_,rfl⟩) (HR9.out u _ hu (fun y MEM=>(mL MEM))) (by rw[show RowM.r ⟨m.l++[b],A9,m.n+1,c9⟩=m.r++[b.r]from j1Q _ _];exact HNR.out) (HTU.out.below (EnvX.bel hu));rw[show RowM.r ⟨m.l++[b],A9,m.n+1,c9⟩=m.r++[b.r]from j1Q _ _,HC3.out]at h;exact h) hu)) ?_)
           rintro xv_ M'_ ⟨u12,N12,rfl,rfl,hk12,hv12,hn12⟩ he355;intro K' hK';go_big_quiet_op;go_big_quiet_on
           have HT12:=hD hk12
           have HV12:=hD hv12
           have HN12:=hD hn12
           have HK12:Hid (j0M u12.b.h):=by obtain⟨v,hv⟩:=HV12.out;exact hv.2.b.h.len
           clear hk12 hv12 hn12
           change j1s _ _ _ _ _ _ _ _ (N12++(N9++((g12,oc (j0j noTipM) 41)::[])))
           refine j0P [6,7,8] 2 rfl (by kernel_rfl) ?_
           have hw356:EnvX u30 _ []:=EnvX.sub he355.choose_spec (fun _ h=>by cases h)
           have hone:= @EnvC.one _ _ _ hw356
           iterate 3 refine qo rfl ⟨_,hw356⟩ ?_
           clear hone hw356
           refine j0b<|aO 10 (j0z rfl (g12) (j0j u12) rfl rfl HG12.out.1 41 ((j0j noTipM)) (mR (mR mH)) (j0K _ (j0m HK12.out)) (j0V HK12.out) (j0R _) ((g12,oc (j0j u12) 41)::(N12++[])) (mA ⟨.inl rfl,(List.forall_mem_append.2 ⟨fun z MEM=> .inr ⟨(mL MEM),HN12.out z MEM _ mH⟩,(fun _ h=>by cases h)⟩)⟩) ?_)
           intro he357
           refine j0P [11] 0 rfl (by kernel_rfl) ?_
           have hw358:EnvX u30 _ []:=EnvX.sub he357.choose_spec (fun _ h=>by cases h)
           have hone:= @EnvC.one _ _ _ hw358
           refine qo rfl ⟨_,hw358⟩ ?_
           clear hone hw358;refine eH fun u360 EX359=>?_
           go_wp2_with fail
           go_meet
           exact⟨g12,u12,rfl,rfl,N12,HT12.out,HV12.out,by have h:=EnvX.comb E8.out EX359.out;simpa only[List.append_nil,List.cons_append,aA] using h⟩
       · skip
         refine qn rfl (j2d _) fun g12 HG12 he361=>?_
         change j1s _ _ _ _ _ _ _ _ [(g12,oc (j0j noTipM) 41),(gb,oc (j04 b).toArray 37)]
         refine aO 1 (j0k (R:=FreshR 37 137 m.n (m.l.map j04).flatten) (M0:=[(g12,oc (j0j noTipM) 41),(gb,oc (j04 b).toArray 37)]) rfl rfl (fun _ h=>h) (fun u hu=>j5M j13 HFL.out HON.out (HKMU.out.m.cells.up (EnvX.bel hu)) HS2.out.1 rfl) ?_)
         rintro x1 N1 hF1 hf he362;intro K' hK';go_big_quiet_op;go_big_quiet_on
         obtain⟨A1,c1,rfl,-,-⟩:=FreshR.formR hF1
         have HF1:=hD hF1
         have HN1:=hD hf
         clear hF1
         clear hf
         change j1s _ _ _ _ _ _ _ _ (N1++((g12,oc (j0j noTipM) 41)::((gb,oc (j04 b).toArray 37)::[])))
         refine aO 4 (j03 (gd:=none) (R:=j1N u30 37 137 (m.n+1) ((m.l.map j04).flatten++j04 b) [(g12,oc (j0j noTipM) 41)]) rfl rfl rfl rfl (fun u hu=>j1H j13 (m:=1) [(g12,oc (j0j noTipM) 41)] hu HFL.out (by rw[Nat.one_mul];exact j0y HKb.out) (j09 _) HF1.out (fun y MEM=>⟨(mL MEM),(HN1.out y MEM).1⟩) (j1p (k:=0) hu (mR (mT mH)) (by rw[List.drop_zero,List.take_length])) (mA ⟨⟨(mR mH),fun y hy=>(HN1.out y hy).2 _ mH⟩,(fun _ h=>by cases h)⟩) HS2.out.2 rfl rfl) ?_)
         rintro x9 M'9 ⟨N9,rfl,hF9,hn9⟩ he363;intro K' hK';go_big_quiet_op;go_big_quiet_on
         obtain⟨A9,c9,rfl,k1,k2⟩:=FreshR.formR hF9
         have HR9:Hid (∀u M,EnvX u30 u M→(∀y∈N9,y∈M)→RowOk u ⟨m.l++[b],A9,m.n+1,c9⟩):=fun u M hu hM=>j4N hu hM (by rw[List.map_append,List.flatten_append,List.map_singleton,List.flatten_singleton];exact hF9) (by rw[lA,HL.out];rfl) ⟨k1,k2⟩ (fun t ht=>(List.mem_append.1 ht).elim (fun h=>((HKMU.out.m.each t h).up (EnvX.bel hu))) (fun h=>by cases mS.1 h;exact HKBU.out.up (EnvX.bel hu)))
         clear hF9 hn9 k1 k2
         change j1s _ _ _ _ _ _ _ _ (N9++((g12,oc (j0j noTipM) 41)::[]))
         refine aO 5 (j0X (gd:=none) (R:=fun xv M'=> ∃tq Nq,xv= .tuple #[.agg (j0j tq), .int .i64 (e3:Int)]∧M'=Nq++(N9++((g12,oc (j0j noTipM) 41)::[]))∧KeptA Nq (IsTip r3 tq)∧(∃v,IsTip r3 tq v)∧ ∀z∈Nq,∀x∈([(g12,oc (j0j noTipM) 41)]:j0e),z.1≠x.1) rfl rfl rfl rfl (fun u hu=>j0D (fid:=13) (xs:= #[.tmp 52]) (args:= #[.slice A9 (m.n+1) c9]) rfl func13 rfl rfl u (j1t (g:=fun k=> ∀x∈([(g12,oc (j0j noTipM) 41)]:j0e),k≠x.1) (by have h:=j1G [(g12,oc (j0j noTipM) 41)] ⟨m.l++[b],A9,m.n+1,c9⟩ u (fun y hy=>by cases mS.1 hy;exact⟨EnvX.box hu _ _ (mR mH),_,rfl⟩) (HR9.out u _ hu (fun y MEM=>(mL MEM))) (by rw[show RowM.r ⟨m.l++[b],A9,m.n+1,c9⟩=m.r++[b.r]from j1Q _ _];exact HNR.out) (HTU.out.below (EnvX.bel hu));rw[show RowM.r ⟨m.l++[b],A9,m.n+1,c9⟩=m.r++[b.r]from j1Q _ _,HC3.out]at h;exact h) hu)) ?_)
         rintro xv_ M'_ ⟨u12,N12,rfl,rfl,hk12,hv12,hn12⟩ he364;intro K' hK';go_big_quiet_op;go_big_quiet_on
         have HT12:=hD hk12
         have HV12:=hD hv12
         have HN12:=hD hn12
         have HK12:Hid (j0M u12.b.h):=by obtain⟨v,hv⟩:=HV12.out;exact hv.2.b.h.len
         clear hk12 hv12 hn12
         change j1s _ _ _ _ _ _ _ _ (N12++(N9++((g12,oc (j0j noTipM) 41)::[])))
         refine j0P [6,7,8] 2 rfl (by kernel_rfl) ?_
         have hw365:EnvX u30 _ []:=EnvX.sub he364.choose_spec (fun _ h=>by cases h)
         have hone:= @EnvC.one _ _ _ hw365
         iterate 3 refine qo rfl ⟨_,hw365⟩ ?_
         clear hone hw365
         refine j0b<|aO 10 (j0z rfl (g12) (j0j u12) rfl rfl HG12.out.1 41 ((j0j noTipM)) (mR (mR mH)) (j0K _ (j0m HK12.out)) (j0V HK12.out) (j0R _) ((g12,oc (j0j u12) 41)::(N12++[])) (mA ⟨.inl rfl,(List.forall_mem_append.2 ⟨fun z MEM=> .inr ⟨(mL MEM),HN12.out z MEM _ mH⟩,(fun _ h=>by cases h)⟩)⟩) ?_)
         intro he366
         refine j0P [11] 0 rfl (by kernel_rfl) ?_
         have hw367:EnvX u30 _ []:=EnvX.sub he366.choose_spec (fun _ h=>by cases h)
         have hone:= @EnvC.one _ _ _ hw367
         refine qo rfl ⟨_,hw367⟩ ?_
         clear hone hw367;refine eH fun u369 EX368=>?_
         go_wp2_with fail
         go_meet
         exact⟨g12,u12,rfl,rfl,N12,HT12.out,HV12.out,by have h:=EnvX.comb E8.out EX368.out;simpa only[List.append_nil,List.cons_append,aA] using h⟩
     · skip
       refine qn rfl (j2d _) fun g12 HG12 he370=>?_
       change j1s _ _ _ _ _ _ _ _ [(g12,oc (j0j noTipM) 41)]
       refine j2L (i:=1) (j:=3) (by kernel_rfl) ?_ ?_
       · skip
         refine(j0k (R:=FreshR 37 137 m.n (m.l.map j04).flatten) (M0:=[(g12,oc (j0j noTipM) 41)]) rfl rfl (fun _ h=>h) (fun u hu=>j5M j13 HFL.out HON.out (HKMU.out.m.cells.up (EnvX.bel hu)) HS2.out.1 rfl) ?_)
         rintro x1 N1 hF1 hf he371;intro K' hK';go_big_quiet_op;go_big_quiet_on
         obtain⟨A1,c1,rfl,-,-⟩:=FreshR.formR hF1
         have HF1:=hD hF1
         have HN1:=hD hf
         clear hF1
         clear hf
         change j1s _ _ _ _ _ _ _ _ (N1++((g12,oc (j0j noTipM) 41)::[]))
         refine aO 3 (j0k (R:=j2R 37 (j04 b)) (M0:=(N1++((g12,oc (j0j noTipM) 41)::[]))) rfl rfl (fun _ h=>h) (fun u hu=>j1q j13 (j0y HKb.out) (j09 _) rfl u) ?_)
         rintro _ _ ⟨gb,rfl,rfl⟩ hf he372;intro K' hK';go_big_quiet_op;go_big_quiet_on
         clear hf
         change j1s _ _ _ _ _ _ _ _ ((gb,oc (j04 b).toArray 37)::(N1++((g12,oc (j0j noTipM) 41)::[])))
         refine aO 4 (j03 (gd:=none) (R:=j1N u30 37 137 (m.n+1) ((m.l.map j04).flatten++j04 b) [(g12,oc (j0j noTipM) 41)]) rfl rfl rfl rfl (fun u hu=>j1H j13 (m:=1) [(g12,oc (j0j noTipM) 41)] hu HFL.out (by rw[Nat.one_mul];exact j0y HKb.out) (j09 _) HF1.out (fun y MEM=>⟨(mT (mL MEM)),(HN1.out y MEM).1⟩) (j1p (k:=0) hu mH (by rw[List.drop_zero,List.take_length])) (mA ⟨⟨(mT (mR mH)),fun y hy=>(HN1.out y hy).2 _ mH⟩,(fun _ h=>by cases h)⟩) HS2.out.2 rfl rfl) ?_)
         rintro x9 M'9 ⟨N9,rfl,hF9,hn9⟩ he373;intro K' hK';go_big_quiet_op;go_big_quiet_on
         obtain⟨A9,c9,rfl,k1,k2⟩:=FreshR.formR hF9
         have HR9:Hid (∀u M,EnvX u30 u M→(∀y∈N9,y∈M)→RowOk u ⟨m.l++[b],A9,m.n+1,c9⟩):=fun u M hu hM=>j4N hu hM (by rw[List.map_append,List.flatten_append,List.map_singleton,List.flatten_singleton];exact hF9) (by rw[lA,HL.out];rfl) ⟨k1,k2⟩ (fun t ht=>(List.mem_append.1 ht).elim (fun h=>((HKMU.out.m.each t h).up (EnvX.bel hu))) (fun h=>by cases mS.1 h;exact HKBU.out.up (EnvX.bel hu)))
         clear hF9 hn9 k1 k2
         change j1s _ _ _ _ _ _ _ _ (N9++((g12,oc (j0j noTipM) 41)::[]))
         refine aO 5 (j0X (gd:=none) (R:=fun xv M'=> ∃tq Nq,xv= .tuple #[.agg (j0j tq), .int .i64 (e3:Int)]∧M'=Nq++(N9++((g12,oc (j0j noTipM) 41)::[]))∧KeptA Nq (IsTip r3 tq)∧(∃v,IsTip r3 tq v)∧ ∀z∈Nq,∀x∈([(g12,oc (j0j noTipM) 41)]:j0e),z.1≠x.1) rfl rfl rfl rfl (fun u hu=>j0D (fid:=13) (xs:= #[.tmp 52]) (args:= #[.slice A9 (m.n+1) c9]) rfl func13 rfl rfl u (j1t (g:=fun k=> ∀x∈([(g12,oc (j0j noTipM) 41)]:j0e),k≠x.1) (by have h:=j1G [(g12,oc (j0j noTipM) 41)] ⟨m.l++[b],A9,m.n+1,c9⟩ u (fun y hy=>by cases mS.1 hy;exact⟨EnvX.box hu _ _ (mR mH),_,rfl⟩) (HR9.out u _ hu (fun y MEM=>(mL MEM))) (by rw[show RowM.r ⟨m.l++[b],A9,m.n+1,c9⟩=m.r++[b.r]from j1Q _ _];exact HNR.out) (HTU.out.below (EnvX.bel hu));rw[show RowM.r ⟨m.l++[b],A9,m.n+1,c9⟩=m.r++[b.r]from j1Q _ _,HC3.out]at h;exact h) hu)) ?_)
         rintro xv_ M'_ ⟨u12,N12,rfl,rfl,hk12,hv12,hn12⟩ he374;intro K' hK';go_big_quiet_op;go_big_quiet_on
         have HT12:=hD hk12
         have HV12:=hD hv12
         have HN12:=hD hn12
         have HK12:Hid (j0M u12.b.h):=by obtain⟨v,hv⟩:=HV12.out;exact hv.2.b.h.len
         clear hk12 hv12 hn12
         change j1s _ _ _ _ _ _ _ _ (N12++(N9++((g12,oc (j0j noTipM) 41)::[])))
         refine j0P [6,7,8] 2 rfl (by kernel_rfl) ?_
         have hw375:EnvX u30 _ []:=EnvX.sub he374.choose_spec (fun _ h=>by cases h)
         have hone:= @EnvC.one _ _ _ hw375
         iterate 3 refine qo rfl ⟨_,hw375⟩ ?_
         clear hone hw375
         refine j0b<|aO 10 (j0z rfl (g12) (j0j u12) rfl rfl HG12.out.1 41 ((j0j noTipM)) (mR (mR mH)) (j0K _ (j0m HK12.out)) (j0V HK12.out) (j0R _) ((g12,oc (j0j u12) 41)::(N12++[])) (mA ⟨.inl rfl,(List.forall_mem_append.2 ⟨fun z MEM=> .inr ⟨(mL MEM),HN12.out z MEM _ mH⟩,(fun _ h=>by cases h)⟩)⟩) ?_)
         intro he376
         refine j0P [11] 0 rfl (by kernel_rfl) ?_
         have hw377:EnvX u30 _ []:=EnvX.sub he376.choose_spec (fun _ h=>by cases h)
         have hone:= @EnvC.one _ _ _ hw377
         refine qo rfl ⟨_,hw377⟩ ?_
         clear hone hw377;refine eH fun u379 EX378=>?_
         go_wp2_with fail
         go_meet
         exact⟨g12,u12,rfl,rfl,N12,HT12.out,HV12.out,by have h:=EnvX.comb E8.out EX378.out;simpa only[List.append_nil,List.cons_append,aA] using h⟩
       · skip
         refine(j0k (R:=j2R 37 (j04 b)) (M0:=[(g12,oc (j0j noTipM) 41)]) rfl rfl (fun _ h=>h) (fun u hu=>j1q j13 (j0y HKb.out) (j09 _) rfl u) ?_)
         rintro _ _ ⟨gb,rfl,rfl⟩ hf he380;intro K' hK';go_big_quiet_op;go_big_quiet_on
         clear hf
         change j1s _ _ _ _ _ _ _ _ [(gb,oc (j04 b).toArray 37),(g12,oc (j0j noTipM) 41)]
         refine aO 1 (j0k (R:=FreshR 37 137 m.n (m.l.map j04).flatten) (M0:=[(gb,oc (j04 b).toArray 37),(g12,oc (j0j noTipM) 41)]) rfl rfl (fun _ h=>h) (fun u hu=>j5M j13 HFL.out HON.out (HKMU.out.m.cells.up (EnvX.bel hu)) HS2.out.1 rfl) ?_)
         rintro x1 N1 hF1 hf he381;intro K' hK';go_big_quiet_op;go_big_quiet_on
         obtain⟨A1,c1,rfl,-,-⟩:=FreshR.formR hF1
         have HF1:=hD hF1
         have HN1:=hD hf
         clear hF1
         clear hf
         change j1s _ _ _ _ _ _ _ _ (N1++((gb,oc (j04 b).toArray 37)::((g12,oc (j0j noTipM) 41)::[])))
         refine aO 4 (j03 (gd:=none) (R:=j1N u30 37 137 (m.n+1) ((m.l.map j04).flatten++j04 b) [(g12,oc (j0j noTipM) 41)]) rfl rfl rfl rfl (fun u hu=>j1H j13 (m:=1) [(g12,oc (j0j noTipM) 41)] hu HFL.out (by rw[Nat.one_mul];exact j0y HKb.out) (j09 _) HF1.out (fun y MEM=>⟨(mL MEM),(HN1.out y MEM).1⟩) (j1p (k:=0) hu (mR mH) (by rw[List.drop_zero,List.take_length])) (mA ⟨⟨(mR (mT mH)),fun y hy=>(HN1.out y hy).2 _ (mT mH)⟩,(fun _ h=>by cases h)⟩) HS2.out.2 rfl rfl) ?_)
         rintro x9 M'9 ⟨N9,rfl,hF9,hn9⟩ he382;intro K' hK';go_big_quiet_op;go_big_quiet_on
         obtain⟨A9,c9,rfl,k1,k2⟩:=FreshR.formR hF9
         have HR9:Hid (∀u M,EnvX u30 u M→(∀y∈N9,y∈M)→RowOk u ⟨m.l++[b],A9,m.n+1,c9⟩):=fun u M hu hM=>j4N hu hM (by rw[List.map_append,List.flatten_append,List.map_singleton,List.flatten_singleton];exact hF9) (by rw[lA,HL.out];rfl) ⟨k1,k2⟩ (fun t ht=>(List.mem_append.1 ht).elim (fun h=>((HKMU.out.m.each t h).up (EnvX.bel hu))) (fun h=>by cases mS.1 h;exact HKBU.out.up (EnvX.bel hu)))
         clear hF9 hn9 k1 k2
         change j1s _ _ _ _ _ _ _ _ (N9++((g12,oc (j0j noTipM) 41)::[]))
         refine aO 5 (j0X (gd:=none) (R:=fun xv M'=> ∃tq Nq,xv= .tuple #[.agg (j0j tq), .int .i64 (e3:Int)]∧M'=Nq++(N9++((g12,oc (j0j noTipM) 41)::[]))∧KeptA Nq (IsTip r3 tq)∧(∃v,IsTip r3 tq v)∧ ∀z∈Nq,∀x∈([(g12,oc (j0j noTipM) 41)]:j0e),z.1≠x.1) rfl rfl rfl rfl (fun u hu=>j0D (fid:=13) (xs:= #[.tmp 52]) (args:= #[.slice A9 (m.n+1) c9]) rfl func13 rfl rfl u (j1t (g:=fun k=> ∀x∈([(g12,oc (j0j noTipM) 41)]:j0e),k≠x.1) (by have h:=j1G [(g12,oc (j0j noTipM) 41)] ⟨m.l++[b],A9,m.n+1,c9⟩ u (fun y hy=>by cases mS.1 hy;exact⟨EnvX.box hu _ _ (mR mH),_,rfl⟩) (HR9.out u _ hu (fun y MEM=>(mL MEM))) (by rw[show RowM.r ⟨m.l++[b],A9,m.n+1,c9⟩=m.r++[b.r]from j1Q _ _];exact HNR.out) (HTU.out.below (EnvX.bel hu));rw[show RowM.r ⟨m.l++[b],A9,m.n+1,c9⟩=m.r++[b.r]from j1Q _ _,HC3.out]at h;exact h) hu)) ?_)
         rintro xv_ M'_ ⟨u12,N12,rfl,rfl,hk12,hv12,hn12⟩ he383;intro K' hK';go_big_quiet_op;go_big_quiet_on
         have HT12:=hD hk12
         have HV12:=hD hv12
         have HN12:=hD hn12
         have HK12:Hid (j0M u12.b.h):=by obtain⟨v,hv⟩:=HV12.out;exact hv.2.b.h.len
         clear hk12 hv12 hn12
         change j1s _ _ _ _ _ _ _ _ (N12++(N9++((g12,oc (j0j noTipM) 41)::[])))
         refine j0P [6,7,8] 2 rfl (by kernel_rfl) ?_
         have hw384:EnvX u30 _ []:=EnvX.sub he383.choose_spec (fun _ h=>by cases h)
         have hone:= @EnvC.one _ _ _ hw384
         iterate 3 refine qo rfl ⟨_,hw384⟩ ?_
         clear hone hw384
         refine j0b<|aO 10 (j0z rfl (g12) (j0j u12) rfl rfl HG12.out.1 41 ((j0j noTipM)) (mR (mR mH)) (j0K _ (j0m HK12.out)) (j0V HK12.out) (j0R _) ((g12,oc (j0j u12) 41)::(N12++[])) (mA ⟨.inl rfl,(List.forall_mem_append.2 ⟨fun z MEM=> .inr ⟨(mL MEM),HN12.out z MEM _ mH⟩,(fun _ h=>by cases h)⟩)⟩) ?_)
         intro he385
         refine j0P [11] 0 rfl (by kernel_rfl) ?_
         have hw386:EnvX u30 _ []:=EnvX.sub he385.choose_spec (fun _ h=>by cases h)
         have hone:= @EnvC.one _ _ _ hw386
         refine qo rfl ⟨_,hw386⟩ ?_
         clear hone hw386;refine eH fun u388 EX387=>?_
         go_wp2_with fail
         go_meet
         exact⟨g12,u12,rfl,rfl,N12,HT12.out,HV12.out,by have h:=EnvX.comb E8.out EX387.out;simpa only[List.append_nil,List.cons_append,aA] using h⟩
    case rest=>
     obtain⟨g12,u12,rfl,rfl,hcut⟩:=hcut
     obtain⟨N12,hk,hv,hE⟩:=hcut.out
     have HT12:=hD hk
     have HV12:=hD hv
     have E9:=hD hE
     have HK12:Hid (j0M u12.b.h):=by obtain⟨v,hv⟩:=HV12.out;exact hv.2.b.h.len
     have HM12:Hid (∀v,IsTip r3 u12 v→j3f u12∧j3W u12.b.t):=fun v h=>by
       have hm:j3f u12:=j38 (l:=m.r++[b.r]) HNR.out (by rw[HC3.out];exact h)
       exact⟨hm,hm.2.2.2⟩
     have HM10:Hid (∀v,IsTip r2 u10 v→j3f u10∧j3W u10.b.t):=fun v h=>by
       by_cases h0:e2=0
       · have h3:j0q (m.r++[b.r])=(r2,0):=by rw[HC3.out,HPM.out,if_pos h0]
         have hm:j3f u10:=j38 (l:=m.r++[b.r]) HNR.out (by rw[h3];exact h)
         exact⟨hm,hm.2.2.2⟩
       · rw[HPE.out h0]at h
         exact HCM.out u10 v h
     clear hcut hk hv hE E8
     go_upto_region 9 with (fail)
     refine rgQ [0,1,2,3] [] E9 rfl fun hw=>?_
     refine ql rfl (mT (mR mH)) HK10.out hw ?_
     refine ql rfl mH HK12.out hw ?_
     refine qc (args:= #[j29 u10,j29 u12]) (v:= .bool (decide (r2=r3))) rfl func19 (fun u hu=>by have h10:=HT10.out u _ hu (fun y MEM=>(mT (mR (mT (mL MEM)))));have h12:=HT12.out w u _ hu (fun y MEM=>(mT (mL MEM)));have h:=q4D u10 u12 u h10.2 (HM10.out u h10) h12.2 (HM12.out u h12);rw[h10.1,h12.1]at h;exact h) hw ?_
     refine qo rfl hw ?_
     refine enP fun u603 EX602=>?_
     cases e2 with
     | zero=>
       have hh:=HPM.out
       rw[if_pos rfl]at hh
       obtain⟨h3,h4⟩:=Prod.mk.injEq _ _ _ _ ▸ hh
       have D2:Hid (decide (((0:Nat):Int)=(e3:Int))=true):=decide_eq_true (by omega)
       have D5:Hid (decide (((0:Nat):Int)≠0)=false):=decide_eq_false (by omega)
       clear hh h4
       rw[decide_eq_true h3.symm]
       go_upto_region 10 with (fail)
       refine rgQ [0,1,2,3,4,5,6,7,8,9,10] [] EX602 rfl fun hw=>?_
       refine qw 2 hw ?_
       refine qv rfl (fun u hu=>j4Z u D2.out rfl rfl) hw ?_
       refine qw 2 hw ?_
       refine qv rfl (fun u hu=>j1i u D5.out rfl rfl) hw ?_
       refine qw 5 hw ?_
       refine enP fun u606 EX605=>?_
       have HBE:=hD (EnvX.bel EX605.out)
       go_wp2
       go_ret
       exact⟨rfl,HBE.out⟩
     | succ e2=>
       have hh:=HPM.out
       rw[if_neg (Nat.succ_ne_zero _)]at hh
       obtain⟨h3,h4⟩:=Prod.mk.injEq _ _ _ _ ▸ hh
       have D2:Hid (decide (((e2+1:Nat):Int)=(e3:Int))=true):=decide_eq_true (by omega)
       have D5:Hid (decide (((e2+1:Nat):Int)≠0)=true):=decide_eq_true (by omega)
       clear hh h4
       generalize decide (r2=r3)=bt at *
       go_upto_region 10 with (fail)
       refine rgQ [0,1,2,3,4,5,6,7,8,9,10] [] EX602 rfl fun hw=>?_
       refine qw 2 hw ?_
       refine qv rfl (fun u hu=>j4Z u D2.out rfl rfl) hw ?_
       refine qw 2 hw ?_
       refine qv rfl (fun u hu=>j1i u D5.out rfl rfl) hw ?_
       refine qw 5 hw ?_
       refine enP fun u606 EX605=>?_
       have HBE:=hD (EnvX.bel EX605.out)
       go_wp2
       go_ret
       exact⟨rfl,HBE.out⟩
theorem x4D(bits:Nat)(w:World)(hb:bits<4294967296)(ht:Tables w):
  Calls Tryz.prog 17 #[.int .u32 (bits:Int)] w fun e w'=>(∃m:RowM,e= .returned (.tuple #[j4e m, .bool (x1f bits).2])∧IsRow (x1f bits).1 m w')∧Below w.heap.size w w':=by
 have HFI:Hid (∀u,EnvX w u []→j1T 38 #[.int .u32 (bits:Int)] u (j86 (j2S bits).1 (j2S bits).2)):=fun u hu=>j7r bits u hb (ht.below (EnvX.bel hu))
 have E1:Hid (EnvX w w []):=EnvX.start w
 obtain⟨bc,hbc⟩: ∃bc,isC bits=bc:=⟨_,rfl⟩
 have HFE:Hid (j2S bits=(if bc then (j4t bits,true)else (j27,false))):=by show _=_;unfold j2S;rw[hbc]
 have HF:Hid (x1f bits=(if bc then ([(j4t bits).b],true)else ([],false))):=by show _=_;unfold x1f;rw[hbc]
 clear hb ht hbc
 rw[HFE.out]at HFI
 cases bc with
 |false=>
  go_enter func17,ntmps17
  go_upto_region 1 with (fail)
  refine rgQ [0] [1,2,3,4,5,6,7] E1 rfl fun hw=>?_
  refine qo rfl hw ?_
  refine j0b<|(j0X (gd:=none) (R:=fun xv M'=> ∃Nq,j86 (j27) false xv Nq∧M'=Nq++[]∧ ∀y∈Nq,w.heap.size≤y.1∧ ∀z∈([]:j0e),z.1≠y.1) rfl rfl rfl rfl (fun u hu=>j0D (fid:=38) (xs:= #[.tmp 7]) (args:= #[.int .u32 (bits:Int)]) rfl func38 rfl rfl u (j3X (HFI.out u hu) hu)) ?_)
  rintro xv_ M'_ ⟨N1,hR1,hM1,hn1⟩ he2;intro K' hK';go_big_quiet_op;go_big_quiet_on
  obtain rfl:=(show N1=M'_ by rw[hM1,List.append_nil])
  obtain⟨t1,rfl,hk1,hv1⟩:=hR1
  have HT1:=hD hk1
  have HV1:=hD hv1
  have HK1:Hid (j0M t1.b.h):=by obtain⟨v,hv⟩:=HV1.out;exact hv.2.b.h.len
  clear hk1 hv1 hn1 hM1
  refine phE [2,3,4] [5,6,7] he2 fun hw=>?_
  refine qw 3 hw ?_
  refine j0b<|qn rfl (j2d _) fun g4 HGg4 he4=>?_
  change j1E _ _ _ _ _ _ ((g4,oc (j0j noTipM) 41)::N1)
  refine(sh rfl HGg4 (j0K _ (j0m HK1.out)) (j0V HK1.out) (j0R _) ?_)
  intro he5
  refine phE [7] [] he5 fun hw=>?_
  refine qo rfl hw ?_
  refine enP fun u8 EX7=>?_
  go_upto_region 2 with (fail)
  refine rgQ [0,1] [] EX7 rfl fun hw=>?_
  refine qw 2 hw ?_
  refine enP fun u11 EX10=>?_
  go_upto_region 3 with (fail)
  refine rgQ [0,1] [] EX10 rfl fun hw=>?_
  refine qw 2 hw ?_
  refine enP fun u14 EX13=>?_
  have HBE:=hD (EnvX.bel EX13.out)
  go_wp2
  go_returns
  exact⟨⟨⟨[],none,0,0⟩,by rw[HF.out]<;>first|rfl|exact⟨rfl,rfl⟩,by rw[HF.out];exact⟨rfl,⟨rfl,⟨Nat.le_refl _,Nat.zero_le _⟩,⟨fun h=>absurd h (Nat.lt_irrefl 0),fun t h=>by cases h⟩⟩⟩⟩,HBE.out⟩
 | true=>
  go_enter func17,ntmps17
  go_upto_region 1 with (fail)
  refine rgQ [0] [1,2,3,4,5,6,7] E1 rfl fun hw=>?_
  refine qo rfl hw ?_
  refine j0b<|(j0X (gd:=none) (R:=fun xv M'=> ∃Nq,j86 (j4t bits) true xv Nq∧M'=Nq++[]∧ ∀y∈Nq,w.heap.size≤y.1∧ ∀z∈([]:j0e),z.1≠y.1) rfl rfl rfl rfl (fun u hu=>j0D (fid:=38) (xs:= #[.tmp 7]) (args:= #[.int .u32 (bits:Int)]) rfl func38 rfl rfl u (j3X (HFI.out u hu) hu)) ?_)
  rintro xv_ M'_ ⟨N1,hR1,hM1,hn1⟩ he2;intro K' hK';go_big_quiet_op;go_big_quiet_on
  obtain rfl:=(show N1=M'_ by rw[hM1,List.append_nil])
  obtain⟨t1,rfl,hk1,hv1⟩:=hR1
  have HT1:=hD hk1
  have HV1:=hD hv1
  have HK1:Hid (j0M t1.b.h):=by obtain⟨v,hv⟩:=HV1.out;exact hv.2.b.h.len
  clear hk1 hv1 hn1 hM1
  refine phE [2,3,4] [5,6,7] he2 fun hw=>?_
  refine qw 3 hw ?_
  refine j0b<|qn rfl (j2d _) fun g4 HGg4 he4=>?_
  change j1E _ _ _ _ _ _ ((g4,oc (j0j noTipM) 41)::N1)
  refine(sh rfl HGg4 (j0K _ (j0m HK1.out)) (j0V HK1.out) (j0R _) ?_)
  intro he5
  refine phE [7] [] he5 fun hw=>?_
  refine qo rfl hw ?_
  refine enP fun u8 EX7=>?_
  go_upto_region 2 with (fail)
  refine rgQ [0,1] [] EX7 rfl fun hw=>?_
  refine qw 2 hw ?_
  refine enP fun u11 EX10=>?_
  go_upto_region 4 with (fail)
  refine rgQ [0,1] [2,3,4] EX10 rfl fun hw=>?_
  refine qf rfl hw ?_
  refine ql rfl mH HK1.out hw ?_
  refine j0b<|(j0k (R:=j2R 37 (j04 t1.b)) (M0:=((g4,oc (j0j t1) 41)::N1)) rfl rfl (fun _ h=>h) (fun u hu=>j1q j13 (j0y HK1.out) (j09 _) rfl u) ?_)
  rintro _ _ ⟨gb,rfl,rfl⟩ hf he13;intro K' hK';go_big_quiet_op;go_big_quiet_on
  clear hf
  refine phE [3,4] [] he13 fun hw=>?_
  refine qw 2 hw ?_
  refine enP fun u16 EX15=>?_
  have HRW:Hid (IsRow [(j4t bits).b] ⟨[t1.b],some ⟨gb,0,none⟩,1,1⟩ u16):=by
   have h:=HT1.out w u16 _ EX15.out (fun y MEM=>(mT (mT MEM)))
   refine⟨?_,rfl,⟨Nat.le_refl _,by show (1:Nat)≤maxLen;unfold maxLen;omega⟩,⟨?_,fun t ht=>?_⟩⟩
   · show [t1.b.r]=_
     rw[show t1.b.r=(j4t bits).b from congrArg TipR.b h.1]
   · show CellsIn _ _ _ ([j04 t1.b].flatten)
     rw[List.flatten_singleton]
     exact j92 (show EnvC w _ _ from EX15.out) (show (gb,oc (j04 t1.b).toArray 37)∈_ from mH) rfl
   · cases mS.1 ht
     exact h.2.b
  have HBE:=hD (EnvX.bel EX15.out)
  go_wp2
  go_returns
  exact⟨⟨⟨[t1.b],some ⟨gb,0,none⟩,1,1⟩,by rw[HF.out]<;>first|rfl|exact⟨rfl,rfl⟩,by rw[HF.out];exact HRW.out⟩,HBE.out⟩
theorem x4g (m:RowM) (l:List TxM) (A:Option Addr) (n c:Nat) (nonce:Nat) (w:World) (hm:RowOk w m) (mm:midRowR m.r) (hl:l.length=n) (hnc:n≤c) (hcm:c≤maxLen) (hA:TxsIn w A l) (ml:j3W l) (hno:nonce<18446744073709551616) (ht:Tables w):
  Calls Tryz.prog 15 #[j4e m, .slice A n c, .int .u64 (nonce:Int)] w fun e w'=>(∃q:RowM,e= .returned (.tuple #[j4e q, .int .i64 ((j6t m.r (rsT l) nonce).2:Int)])∧IsRow (j6t m.r (rsT l) nonce).1 q w')∧Below w.heap.size w w':=by
 have HMM:=hD mm
 have HN2:Hid (m.n+1≤2000000):=by have h:=mm.len;rw[hm.l]at h;show _≤_;omega
 have HEA:Hid (∀u,EnvX w u []→j1T 44 #[.slice m.A m.n m.c, .func (.func 45) #[] #[]] u (x2q m.r m.n)):=fun u hu=>x1Y m.l m.A m.n m.c u hm.l (by rw[←hm.l];exact Nat.le_trans mm.len (by decide)) (hm.m.up (EnvX.bel hu)) mm.mem
 have HCK:Hid (∀u,EnvX w u []→Calls Tryz.prog 13 #[.slice m.A m.n m.c] u fun e w'=>(∃t:TipM,e= .returned (.tuple #[j29 t, .int .i64 ((j0q m.r).2:Int)])∧IsTip (j0q m.r).1 t w')∧Below u.heap.size u w'):=fun u hu=>q7n m u (hm.up (EnvX.bel hu)) mm (ht.below (EnvX.bel hu))
 have HMI:Hid (∀(u:World)(t:TipM),EnvX w u []→IsTip (j0q m.r).1 t u→j1T 46 #[j29 t, .slice A n c, .int .u64 (nonce:Int), .int .i64 200] u (x1R (j2Q (j0q m.r).1 (rsT l) nonce 200).1 (j2Q (j0q m.r).1 (rsT l) nonce 200).2)):=fun u t hu h=>by
  have k:=q4Q t l A n c nonce 200 u h.2 (j38 mm h) hl hnc hcm (hA.up (EnvX.bel hu)) ml hno (by unfold I64;omega) (ht.below (EnvX.bel hu))
  rw[h.1]at k
  exact k
 have E1:Hid (EnvX w w []):=EnvX.start w
 have HG1:Hid ((j0q m.r).2≠0→j6t m.r (rsT l) nonce=(m.r,(j0q m.r).2)):=fun h=>by unfold j6t;rw[if_pos h]
 have HG2:Hid ((j0q m.r).2=0→j6t m.r (rsT l) nonce=if (j2Q (j0q m.r).1 (rsT l) nonce 200).2≠0 then (m.r,(j2Q (j0q m.r).1 (rsT l) nonce 200).2)else (m.r++[(j2Q (j0q m.r).1 (rsT l) nonce 200).1],0)):=fun h=>by unfold j6t;rw[if_neg (fun k=>k h)]
 obtain⟨rc,ec,hrc⟩: ∃rc ec,j0q m.r=(rc,ec):=⟨_,_,rfl⟩
 rw[hrc]at HCK HMI HG1 HG2
 obtain⟨rb,eb,hrb⟩: ∃rb eb,j2Q rc (rsT l) nonce 200=(rb,eb):=⟨_,_,rfl⟩
 simp only at HCK HMI HG1 HG2
 rw[hrb]at HMI HG2
 simp only at HMI HG2
 clear hm mm hl hnc hcm hA ml hno ht hrc hrb
 unfold j4e
 go_enter func15,ntmps15
 go_upto_region 1 with (fail)
 refine rgQ [0] [1,2] E1 rfl fun hw=>?_
 refine qo rfl hw ?_
 refine j0b<|qr rfl func44 (fun u hu=>HEA.out u (nl hu)) ?_
 rintro x1 N1 hF hf he2
 obtain⟨q,Nx,Ni,hN1,hq,hr,hfr,hap,hok⟩:=hF
 obtain⟨A',c',rfl,hc1,hc2⟩:=FreshR.formR hfr
 have HNE:=hD hN1
 have HQ:=hD hq
 have HR:=hD hr
 have HFR:=hD hfr
 have HAP:=hD hap
 have HOK:=hD hok
 have HC1:=hD (And.intro hc1 hc2)
 have HNL:Hid (∀y∈N1,w.heap.size≤y.1):=fun y hy=>(hf y hy).1
 clear hN1 hq hr hfr hap hok hc1 hc2
 clear hf
 change j1E _ _ _ _ _ _ (N1++[])
 rw[List.append_nil]at he2 ⊢
 refine phE [2] [] he2 fun hw=>?_
 refine qo rfl hw ?_
 refine enP fun u5 EX4=>?_
 have E2:Hid (EnvX w u5 (Nx++Ni)):=by have h:=EX4.out;rwa[HNE.out]at h
 have HNX:Hid (∀y∈Nx,w.heap.size≤y.1):=fun y hy=>HNL.out y (by rw[HNE.out];exact mL hy)
 have HRO:Hid (KeptA (Nx++Ni) (fun u=>RowOk u ⟨q,A',m.n,c'⟩)):=q3x HQ.out HFR.out HC1.out HOK.out
 have HFL:Hid ((q.map j04).flatten.length=m.n*137):=q59 HQ.out (fun t ht=>HOK.out t ht w _ _ E2.out (fun y hy=>mR hy))
 clear EX4 HNL HNE
 go_upto_region 2 with (fail)
 refine rgQ [0] [1,2,3,4,5,6,7] E2 rfl fun hw=>?_
 refine qo rfl hw ?_
 refine j0b<|(j0X (gd:=none) (R:=fun x M'=> ∃tq N,x= .tuple #[.agg (j0j tq), .int .i64 (ec:Int)]∧M'=N++(Nx++Ni)∧j66 w N (IsTip (rc) tq)∧ ∃vq,IsTip (rc) tq vq) rfl rfl rfl rfl (fun u hu=>j0D (fid:=13) (xs:= #[.tmp 15]) (args:= #[.slice m.A m.n m.c]) rfl func13 rfl rfl u (j62 (HCK.out u (nl hu)) hu)) ?_)
 rintro _ _ ⟨t9,N9,rfl,rfl,hk9,hv9⟩ he17;intro K' hK';go_big_quiet_op;go_big_quiet_on
 have HT9:=hD hk9
 have HV9:=hD hv9
 have HK9:Hid (j0M t9.b.h):=by obtain⟨v,hv⟩:=HV9.out;exact hv.2.b.h.len
 clear hk9 hv9
 refine phE [2,3,4] [5,6,7] he17 fun hw=>?_
 refine qw 3 hw ?_
 refine j0b<|qn rfl (j2d _) fun g9 HGg9 he19=>?_
 change j1E _ _ _ _ _ _ ((g9,oc (j0j noTipM) 41)::(N9++(Nx++Ni)))
 refine(sh rfl HGg9 (j0K _ (j0m HK9.out)) (j0V HK9.out) (j0R _) ?_)
 intro he20
 refine phE [7] [] he20 fun hw=>?_
 refine qo rfl hw ?_
 refine enP fun u23 EX22=>?_
 cases ec with
 |succ ec=>
  have D3:Hid (decide (((ec+1:Nat):Int)≠0)=true):=decide_eq_true (by omega)
  have HF:Hid (j6t m.r (rsT l) nonce=(m.r,ec+1)):=HG1.out (Nat.succ_ne_zero _)
  go_upto_region 3 with (fail)
  refine rgQ [0,1] [] EX22 rfl fun hw=>?_
  refine qo rfl hw ?_
  refine qv rfl (fun u hu=>j1i u D3.out rfl rfl) hw ?_
  refine enP fun u26 EX25=>?_
  go_upto_region 4 with (fail)
  refine rgQ [0,1,2,3] [] EX25 rfl fun hw=>?_
  refine qw 4 hw ?_
  refine enP fun u29 EX28=>?_
  have HRW:Hid (IsRow m.r ⟨q,A',m.n,c'⟩ u29):=⟨HR.out,HRO.out w _ _ EX28.out (fun y hy=>(List.mem_append.1 hy).elim (fun MEM=>(mT (mR (mL MEM)))) (fun MEM=>(mT (mR (mR MEM)))))⟩
  have HBE:=hD (EnvX.bel EX28.out)
  go_wp2
  go_returns
  exact⟨⟨⟨q,A',m.n,c'⟩,by rw[HF.out]<;>first|rfl|exact⟨rfl,rfl⟩,by rw[HF.out];exact HRW.out⟩,HBE.out⟩
 | zero =>
  have D3:Hid (decide (((0:Nat):Int)≠0)=false):=decide_eq_false (by omega)
  replace HG2:=hD (HG2.out rfl)
  go_upto_region 3 with (fail)
  refine rgQ [0,1] [] EX22 rfl fun hw=>?_
  refine qo rfl hw ?_
  refine qv rfl (fun u hu=>j1i u D3.out rfl rfl) hw ?_
  refine enP fun u26 EX25=>?_
  go_upto_region 5 with (fail)
  refine rgQ [0,1,2] [3,4,5,6,7,8,9] EX25 rfl fun hw=>?_
  refine ql rfl mH HK9.out hw ?_
  refine qw 2 hw ?_
  refine j0b<|(j0X (gd:=none) (R:=fun xv M'=> ∃Nq,x1R rb eb xv Nq∧M'=Nq++((g9,oc (j0j t9) 41)::(N9++(Nx++Ni)))∧ ∀y∈Nq,w.heap.size≤y.1∧ ∀z∈((g9,oc (j0j t9) 41)::(N9++(Nx++Ni))),z.1≠y.1) rfl rfl rfl rfl (fun u hu=>j0D (fid:=46) (xs:= #[.tmp 24, .tmp 25, .tmp 26, .const (.int .i64 200)]) (args:= #[j29 t9, .slice A n c, .int .u64 (nonce:Int), .int .i64 200]) rfl func46 rfl rfl u (j3X (HMI.out u t9 (nl hu) (HT9.out u _ hu (fun y MEM=>(mT (mL MEM))))) hu)) ?_)
  rintro xv_ M'_ ⟨N5,hR5,rfl,hn5⟩ he28;intro K' hK';go_big_quiet_op;go_big_quiet_on
  obtain⟨b5,rfl,hk5,hv5⟩:=hR5
  have HN5:=hD hn5
  clear hn5
  have HT5:=hD hk5
  have HV5:=hD hv5
  have HK5:Hid (j0M b5.h):=by obtain⟨v,hv⟩:=HV5.out;exact hv.2.h.len
  clear hk5 hv5
  refine phE [4,5,6] [7,8,9] he28 fun hw=>?_
  refine qw 3 hw ?_
  refine j0b<|qn rfl (j4R _) fun g11 HGg11 he30=>?_
  change j1E _ _ _ _ _ _ ((g11,oc (j0L noBlkM) 37)::(N5++((g9,oc (j0j t9) 41)::(N9++(Nx++Ni)))))
  refine(sh rfl HGg11 (j1J _ (j0O HK5.out)) (j1D HK5.out) (j15 _) ?_)
  intro he31
  refine phE [9] [] he31 fun hw=>?_
  refine qo rfl hw ?_
  refine enP fun u34 EX33=>?_
  cases eb with
  |succ eb=>
   have D3:Hid (decide (((eb+1:Nat):Int)≠0)=true):=decide_eq_true (by omega)
   have HF:Hid (j6t m.r (rsT l) nonce=(m.r,eb+1)):=by show _=_;rw[HG2.out,if_pos (Nat.succ_ne_zero _)]
   go_upto_region 6 with (fail)
   refine rgQ [0,1] [] EX33 rfl fun hw=>?_
   refine qo rfl hw ?_
   refine qv rfl (fun u hu=>j1i u D3.out rfl rfl) hw ?_
   refine enP fun u37 EX36=>?_
   go_upto_region 7 with (fail)
   refine rgQ [0,1,2,3] [] EX36 rfl fun hw=>?_
   refine qw 4 hw ?_
   refine enP fun u40 EX39=>?_
   have HRW:Hid (IsRow m.r ⟨q,A',m.n,c'⟩ u40):=⟨HR.out,HRO.out w _ _ EX39.out (fun y hy=>(List.mem_append.1 hy).elim (fun MEM=>(mT (mR (mT (mR (mL MEM)))))) (fun MEM=>(mT (mR (mT (mR (mR MEM)))))))⟩
   have HBE:=hD (EnvX.bel EX39.out)
   go_wp2
   go_returns
   exact⟨⟨⟨q,A',m.n,c'⟩,by rw[HF.out]<;>first|rfl|exact⟨rfl,rfl⟩,by rw[HF.out];exact HRW.out⟩,HBE.out⟩
  | zero=>
   have D3:Hid (decide (((0:Nat):Int)≠0)=false):=decide_eq_false (by omega)
   have HF:Hid (j6t m.r (rsT l) nonce=(m.r++[rb],0)):=by show _=_;rw[HG2.out,if_neg (fun h=>h rfl)]
   go_upto_region 6 with (fail)
   refine rgQ [0,1] [] EX33 rfl fun hw=>?_
   refine qo rfl hw ?_
   refine qv rfl (fun u hu=>j1i u D3.out rfl rfl) hw ?_
   refine enP fun u37 EX36=>?_
   go_upto_region 8 with (fail)
   refine rgQ [0,1] [2,3,4,5] EX36 rfl fun hw=>?_
   refine qo rfl hw ?_
   refine ql rfl mH HK5.out hw ?_
   refine j0b<|(j0k (R:=j2R 37 (j04 b5)) (M0:=((g11,oc (j0L b5) 37)::(N5++((g9,oc (j0j t9) 41)::(N9++(Nx++Ni)))))) rfl rfl (fun _ h=>h) (fun u hu=>j1q j13 (j0y HK5.out) (j09 _) rfl u) ?_)
   rintro _ _ ⟨gb,rfl,rfl⟩ hf he39;intro K' hK';go_big_quiet_op;go_big_quiet_on
   clear hf
   change j1E _ _ _ _ _ _ ((gb,oc (j04 b5).toArray 37)::((g11,oc (j0L b5) 37)::(N5++((g9,oc (j0j t9) 41)::(N9++(Nx++Ni))))))
   refine(j03 (gd:=none) (R:=j1N w 37 137 (m.n+1) ((q.map j04).flatten++j04 b5) (Ni++N5)) rfl rfl rfl rfl (fun u hu=>j1H j13 (m:=1) (Ni++N5) hu HFL.out (by rw[Nat.one_mul];exact j0y HK5.out) (j09 _) HFR.out (fun y MEM=>⟨(mT (mT (mR (mT (mR (mL MEM)))))),HNX.out y MEM⟩) (j1p (k:=0) hu mH (by rw[List.drop_zero,List.take_length])) (fun y hy=>(List.mem_append.1 hy).elim (fun MEM=>⟨(mT (mT (mR (mT (mR (mR MEM)))))),fun z hz=>HAP.out y MEM z hz⟩) (fun MEM=>⟨(mT (mT (mL MEM))),fun z MEM2 e=>(HN5.out y MEM).2 z (mT (mR (mL MEM2))) e.symm⟩)) HN2.out rfl rfl) ?_)
   rintro x8 M'8 ⟨N8,rfl,hF8,hn8⟩ he40;intro K' hK';go_big_quiet_op;go_big_quiet_on
   obtain⟨A8,c8,rfl,k1,k2⟩:=FreshR.formR hF8
   have HF8:=hD (And.intro hF8 (And.intro k1 k2))
   clear hF8 hn8 k1 k2
   refine phE [4,5] [] he40 fun hw=>?_
   refine qw 2 hw ?_
   refine enP fun u43 EX42=>?_
   have HRW:Hid (IsRow (m.r++[rb]) ⟨q++[b5],A8,m.n+1,c8⟩ u43):=by
    have hk:=q3x (q:=q++[b5]) (N:=Ni++N5) (by rw[lA,HQ.out];rfl) (by rw[List.map_append,List.flatten_append,List.map_singleton,List.flatten_singleton];exact HF8.out.1) HF8.out.2 (fun t ht=>?_)
    · refine⟨?_,hk w _ _ EX42.out (fun y hy=>hy)⟩
      obtain⟨v,hv⟩:=HV5.out
      show rsB (q++[b5])=_
      rw[j1Q,HR.out]
      show m.r++[b5.r]=_
      rw[hv.1]
    · rcases List.mem_append.1 ht with h|h
      · exact(HOK.out t h).mono (fun y hy=>mL hy)
      · cases mS.1 h
        exact fun w0 u M hu hM=>(HT5.out w0 u M hu (fun y hy=>hM y (mR hy))).2
   have HBE:=hD (EnvX.bel EX42.out)
   go_wp2
   go_returns
   exact⟨⟨⟨q++[b5],A8,m.n+1,c8⟩,by rw[HF.out]<;>first|rfl|exact⟨rfl,rfl⟩,by rw[HF.out];exact HRW.out⟩,HBE.out⟩
theorem q9Z(m:RowM)(w:World)(hm:RowOk w m)(hl:m.l.length≤100000)(ht:Tables w):
  Calls Tryz.prog 22 #[j4e m] w fun e w'=>(∃v,e= .returned v∧w'.ownsRow w.heap.size 3 1 v m.n ((j10 m.r).map j78))∧Below w.heap.size w w':=by
 have HEA:Hid (∀u,EnvX w u []→Calls Tryz.prog 50 #[.slice m.A m.n m.c, .func (.func 51) #[] #[]] u fun e w'=>(∃v,e= .returned v∧w'.ownsRow u.heap.size 3 1 v m.n ((j10 m.r).map j78))∧Below u.heap.size u w'):=fun u hu=>x3i m.l m.A m.n m.c u hm.l (by rw[←hm.l];exact Nat.le_trans hl (by decide)) (hm.m.up (EnvX.bel hu)) (ht.below (EnvX.bel hu))
 have HLE:Hid (((j10 m.r).map j78).length=m.n*1):=by
  show _=_
  unfold j10
  rw[lM,lM,m.r_len,hm.l,Nat.mul_one]
 have E1:Hid (EnvX w w []):=EnvX.start w
 clear hm hl ht
 unfold j4e
 go_enter func22,ntmps22
 go_upto_region 1 with (fail)
 refine rgQ [0] [1,2] E1 rfl fun hw=>?_
 refine qo rfl hw ?_
 refine j0b<|qr rfl func50 (fun u hu=>j0i (HEA.out u (nl hu))) ?_
 rintro x1 N1 hF hf he2
 have HF1:=hD hF
 have HNB:Hid (∀y∈N1,w.heap.size≤y.1):=fun y hy=>(hf y hy).1
 clear hF
 clear hf
 change j1E _ _ _ _ _ _ (N1++[])
 rw[List.append_nil]at he2 ⊢
 refine phE [2] [] he2 fun hw=>?_
 refine qo rfl hw ?_
 refine enP fun u5 EX4=>?_
 have HOW:Hid (u5.ownsRow w.heap.size 3 1 x1 m.n ((j10 m.r).map j78)):=HF1.out.own HLE.out (fun y hy=>⟨HNB.out y hy,EnvX.box EX4.out _ _ (by simpa using hy)⟩)
 have HBE:=hD (EnvX.bel EX4.out)
 go_wp2
 go_ret
 exact⟨⟨_,rfl,HOW.out⟩,HBE.out⟩
theorem q9y(m:RowM)(w:World)(hm:RowOk w m)(hl:m.l.length≤100000)(ht:Tables w):
  Calls Tryz.prog 26 #[j4e m] w fun e w'=>(∃v,e= .returned v∧w'.ownsRow w.heap.size 61 37 v m.n (((j1h m.r).map j11).flatten))∧Below w.heap.size w w':=by
 have HEA:Hid (∀u,EnvX w u []→Calls Tryz.prog 55 #[.slice m.A m.n m.c, .func (.func 56) #[] #[]] u fun e w'=>(∃v,e= .returned v∧w'.ownsRow u.heap.size 61 37 v m.n (((j1h m.r).map j11).flatten))∧Below u.heap.size u w'):=fun u hu=>x19 m.l m.A m.n m.c u hm.l (by rw[←hm.l];exact Nat.le_trans hl (by decide)) (hm.m.up (EnvX.bel hu)) (ht.below (EnvX.bel hu))
 have HLE:Hid ((((j1h m.r).map j11).flatten).length=m.n*37):=by
  show _=_
  rw[j2x (j4V m.r).1]
  unfold j1h
  rw[lM,m.r_len,hm.l]
 have E1:Hid (EnvX w w []):=EnvX.start w
 clear hm hl ht
 unfold j4e
 go_enter func26,ntmps26
 go_upto_region 1 with (fail)
 refine rgQ [0] [1,2] E1 rfl fun hw=>?_
 refine qo rfl hw ?_
 refine j0b<|qr rfl func55 (fun u hu=>j0i (HEA.out u (nl hu))) ?_
 rintro x1 N1 hF hf he2
 have HF1:=hD hF
 have HNB:Hid (∀y∈N1,w.heap.size≤y.1):=fun y hy=>(hf y hy).1
 clear hF
 clear hf
 change j1E _ _ _ _ _ _ (N1++[])
 rw[List.append_nil]at he2 ⊢
 refine phE [2] [] he2 fun hw=>?_
 refine qo rfl hw ?_
 refine enP fun u5 EX4=>?_
 have HOW:Hid (u5.ownsRow w.heap.size 61 37 x1 m.n (((j1h m.r).map j11).flatten)):=HF1.out.own HLE.out (fun y hy=>⟨HNB.out y hy,EnvX.box EX4.out _ _ (by simpa using hy)⟩)
 have HBE:=hD (EnvX.bel EX4.out)
 go_wp2
 go_ret
 exact⟨⟨_,rfl,HOW.out⟩,HBE.out⟩
theorem x4d:ChainC where
 check:=fun m w hm mm ht=>q7n m w hm mm ht
 new:=fun bits w hb ht=>x4D bits w hb ht
 grow:=fun m l A n c nonce w hm mm hl hnc hcm hA ml hno ht=>x4g m l A n c nonce w hm mm hl hnc hcm hA ml hno ht
 find:=fun m id w hm hn hid ht=>x4h m id w hm hn hid ht
 levels:=fun m w hm hl ht=>q9Z m w hm hl ht
 leaves:=fun m w hm hl ht=>q9y m w hm hl ht
 same:=fun m q w hm mm hq mq _=>x3A m q w hm mm hq mq
end Go.Proofs.YtojmeodoenkapaaGreatDoor
namespace Go.Proofs.YtojmeodoenkapaaGreatDoor.chainPushes
set_option maxRecDepth 8000
open Go.ChangeShapes Go.WideShapes Go.ChangeAt Go.RowKit
theorem contract(H:Type)(enc:TypeId × Value→H)(W:World)(base:Nat)(args:Array Value)(ds gs:List (DataW H))(before:List MemPlace)
  (hval: ∀(j:Nat) t v,Tryz.f8.params[j]?=some t→args[j]?=some v→Value.okWide Tryz.prog W .any base t v)
  (hW:DataW.Whole enc Tryz.prog Tryz.f8.params.toList Rows.chainPushesSpec.vars false W args.toList ds gs before) (hL:laidMetH Tryz.prog Rows.chainPushesUptoRow.laid W) (hK:Rows.uptoSmall H (ds++gs)=true):
  Calls Tryz.prog 8 args W fun e W'=> ∃v,e= .returned v∧Rows.chainPushesSpec.post enc Tryz.prog Tryz.f8 false true false false W args v W':=by
 have hW':=hW
 obtain⟨p,q,hA0,hV,rfl,hfz,hnd⟩:=hW
 have hA:DataW.TrodAll enc Tryz.prog W 0 (fun _=>true) true Tryz.f8.params.toList args.toList ds p:=hA0
 rw[Tryz.params8]at hA hval
 obtain⟨v0,vs0,d0,ds0,p0,q0,hargs,rfl,rfl,h0,r0⟩:=trodAll_cons hA
 obtain⟨v1,vs1,d1,ds1,p1,q1,rfl,rfl,rfl,h1,r1⟩:=trodAll_cons r0
 obtain⟨rfl,rfl,rfl⟩:=trodAll_nil r1
 obtain rfl:args= #[v0,v1]:=by cases args;simp_all
 obtain⟨rfl,rfl⟩:=trodVars_none hV
 have hB:Rows.uptoBulkAll [d0,d1]≤1048576:=of_decide_eq_true hK
 have lt0: ∀x∈p0,x.block<W.heap.size:=by obtain⟨m,hm⟩:=h0;exact DataW.trod_lt m _ _ _ hm
 obtain⟨x0,rfl,kx0,mx0⟩:=q4p (hval 0 22 v0 rfl rfl) h0 (Nat.le_trans (j5U mH) hB)
 have lt1: ∀x∈p1,x.block<W.heap.size:=by obtain⟨m,hm⟩:=h1;exact DataW.trod_lt m _ _ _ hm
 obtain⟨x1,rfl,kx1,mx1⟩:=q8g (hval 1 37 v1 rfl rfl) h1 (Nat.le_trans (j5U (mT mH)) hB)
 clear hA0
 refine(q0z x4d x0 x1 W kx0 mx0 kx1 mx1 (j8g hL)).mono fun e W'⟨he,bel⟩=>?_
 subst he
 exact⟨_,rfl,_,_,_,[],_,[],hW',trodAll_mk1 (shut_bool underlying4 _),(trodAll_cons_mk (Below.trod laidOut (by kernel_rfl) (of_decide_eq_true (by kernel_rfl)) h0 bel lt0) (trodAll_cons_mk (Below.trod laidOut (by kernel_rfl) (of_decide_eq_true (by kernel_rfl)) h1 bel lt1) trodAll_mk0)),rfl,bel.frame _,fun h=>by cases h⟩
def start:Array Value:= #[.slice none 0 0,x4z]
theorem reads(os:Os){H:Type}(enc:TypeId × Value→H): ∃places,DataW.whole enc Tryz.prog ((laidWorld os).forCall (fun _ _=>0) ⟨#[],start,[]⟩).memory Tryz.f8.params.toList Rows.chainPushesSpec.vars false start.toList 8=some ([.nil,x37],[],places):=
 ⟨[],by kernel_rfl⟩
theorem lifted(os:Os)(started:os.Started)(H:Type)(enc:TypeId × Value→H)(F:Stop.Interp):
  ReturnsInHanded {} Tryz.checked os 8 .any ((Rows.OpenSpec.upto Rows.chainPushesSpec).preRow enc Tryz.prog Tryz.f8 Rows.chainPushesUptoRow.domain false Rows.chainPushesUptoRow.laid) (((Rows.OpenSpec.upto Rows.chainPushesSpec).at F).post enc Tryz.prog Tryz.f8 false true false false):=by
 obtain⟨places,hx⟩:=reads os enc
 refine returnsInHanded_of_row (C:=Tryz.checked) (s:=Rows.OpenSpec.upto Rows.chainPushesSpec) own started (by kernel_rfl) func8
  (witness_row_at (enc:=enc) (C:=Tryz.checked) false (laidWorld os) start rfl (by kernel_rfl) (by kernel_rfl) (by kernel_rfl)
   (OpenSpec.preRow_of_cond 8 hx (by kernel_rfl) (fun k hk=>by cases hk;kernel_rfl) (by kernel_rfl) (laidMet_of_run' 8 (by kernel_rfl) (by kernel_rfl)))) ?_
 intro W base args ds gs before hval hW _ hcond _ hL _ _
 exact contract H enc W base args ds gs before hval hW hL (hcond _ rfl)
theorem said:Rows.ChainPushesUptoSaid:=
 OpenClaim.holds_of_cond 8 Tryz.f8 rfl rfl rfl rfl rfl rfl rfl ⟨rfl,rfl,rfl,rfl,rfl⟩ rfl rfl rfl rfl rfl (by kernel_rfl) func8 (by kernel_rfl)
  (of_decide_eq_true (by kernel_rfl)) (by unfold Func.isWrapper;first|(rw[if_pos (by decide+kernel)];kernel_rfl)|(rw[if_neg (by decide+kernel)];exact⟨rfl,rfl⟩))
  (fun os started H enc _ F=>by rw[OpenClaim.pre_eq_preRow];exact lifted os started H enc F)
theorem plain(f:FuncId)(fn:Func)(hf:Tryz.pinned.checked.prog.funcNamed "stepladder/stepladderlaw12.ChainPushes" =some f)(hfn:Tryz.pinned.checked.prog.funcs[f]?=some fn):
   false=Tryz.pinned.checked.prog.looks []∧ ∀(j:Nat) t,fn.params[j]?=some t→Tryz.pinned.checked.prog.wantsStandIn t=false:=by
 obtain rfl:f=8:=Option.some.inj ((show Tryz.prog.funcNamed "stepladder/stepladderlaw12.ChainPushes" =some 8 by kernel_rfl).symm.trans hf)|>.symm
 obtain rfl:fn=Tryz.f8:=(Option.some.inj (func8.symm.trans hfn)).symm
 refine⟨by kernel_rfl,fun j t ht=>?_⟩
 rw[Tryz.params8]at ht
 have hm:t=22∨t=37:=by simpa using Array.mem_of_getElem? ht
 rcases hm with rfl|rfl
 · exact(show Tryz.prog.wantsStandIn 22=false by kernel_rfl)
 · exact(show Tryz.prog.wantsStandIn 37=false by kernel_rfl)
theorem card:Rows.ChainPushesUptoCardSaid:=
 Claim7.holds_tied_plain_at .later [] _ _ _ _ said (fun _ h=>by cases h) (by kernel_rfl) (fun _ h=>by cases h) chainPushesUpto_row_tie rfl ⟨rfl,rfl⟩ (by kernel_rfl) rfl plain (by kernel_rfl)
end Go.Proofs.YtojmeodoenkapaaGreatDoor.chainPushes
