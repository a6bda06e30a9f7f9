/- Part of a proof. -/
import Derived.Test.YtojmeodoenkapaaGreatDoorYi
import Derived.WalkMore
open Go.Proofs.Tryz
namespace Go.Proofs.YtojmeodoenkapaaGreatDoor
set_option maxRecDepth 20000
set_option maxHeartbeats 8000000
set_option linter.unusedVariables false
set_option linter.unusedSimpArgs false
open Go.RowKit
def RTipE(r:TipR)(e:Bool)(x:Value)(N:Boxes):Prop:= ∃t,x= .tuple #[tipV t, .bool e]∧KeptA N (IsTip r t)∧ ∃v,IsTip r t v
def RBlkE(r:BlkR)(e:Nat)(x:Value)(N:Boxes):Prop:= ∃b,x= .tuple #[blkV b, .int .i64 (e:Int)]∧KeptA N (IsBlk r b)∧ ∃v,IsBlk r b v
def SepT(r:TipR)(t:TipM)(B:Nat)(w':World):Prop:= ∃N Nc,KeptA N (fun u=>IsBlk r.b t.b u∧TotsIn u u.heap.size t.A3 t.p)∧CoB t.c t.A4 Nc∧(∀y∈N,B≤y.1∧w'.heap[y.1]?=some y.2)∧ ∀y∈Nc,w'.heap[y.1]?=some y.2
theorem vbfirst_no(bits:Nat)(w:World)(hb:bits<4294967296)(ht:Tables w)(k:isC bits=false):
  Hands 38 #[.int .u32 (bits:Int)] w (RTipE (firstK bits).1 (firstK bits).2):=by
 unfold Hands
 have HTG:Hid (Rt w 72 #[.int .u32 (bits:Int)] (.tuple #[.agg (wcs (tv bits)), .bool (isC bits)])):=fun u hu=>target_any bits u hb
 have HF:Hid (firstK bits=(noTip,false)):=by show _=_;unfold firstK;rw[if_neg (by rw[k];decide)]
 have HNL:Hid (lenH noTipM.b.h):=len_no
 rw[k]at HTG
 have E1:Hid (EnvX w (w.alloc (.cells (tipA noTipM) 41)) [(w.heap.size,oc (tipA noTipM) 41)]):=(EnvX.start w).new _
 clear k hb ht
 go_enter func38,ntmps38
 go_upto_region 1 with (fail)
 rw[←zero_tipA]
 generalize w.alloc (.cells (tipA noTipM) 41)=W at *
 refine rgQ [0,1,2,3,4] [5,6,7] E1 rfl fun hw=>?_
 refine qo rfl hw ?_
 refine qc rfl func72 (fun u hu=>HTG.out u (nl hu)) hw ?_
 refine qw 3 hw ?_
 refine wpG_nil<|qn rfl (new_wide _) fun gt HGt he2=>?_
 change lexH _ _ _ _ _ _ [(gt,oc (wcs 0) 32),(w.heap.size,oc (tipA noTipM) 41)]
 refine(sh rfl HGt (wc_info _) ((wc_size _).trans (wc_size _).symm) (wc_one _) ?_)
 intro he3
 refine phE [7] [] he3 fun hw=>?_
 refine qo rfl hw ?_
 refine enP fun u6 EX5=>?_
 go_upto_region 2 with (fail)
 refine rgQ [0,1] [] EX5 rfl fun hw=>?_
 refine qw 2 hw ?_
 refine enP fun u9 EX8=>?_
 go_upto_region 3 with (fail)
 refine rgQ [0] [1,2] EX8 rfl fun hw=>?_
 refine qv (v:= .agg (tipA noTipM)) rfl (fun u hu=>buildA_op u built_tip0) hw ?_
 refine wpG_nil<|(so rfl (Nat.le_refl _) (mT mH) (infoTip _ (tipA_size HNL.out)) (tip_sizes HNL.out) (tipA_one _) ?_)
 intro he11
 refine phE [2] [] he11 fun hw=>?_
 refine qo rfl hw ?_
 refine enP fun u14 EX13=>?_
 have Q0:=hD (EnvX.box EX13.out _ _ mH)
 have HBEL:=hD EX13.out.bel
 clear EX13
 go_wp2_with ((with_reducible refine bodyPost_ret (v:= .tuple #[.agg (tipA noTipM), .bool false]) ?_ ?_ ?_);(exact results_row_slot (p:=2) (q:=3) (ty:=41) results38 _ _ (w.heap.size) 41 (tipA noTipM) (0,0) _ rfl _ rfl Q0.out underlying41 rfl (infoTip _ (tipA_size HNL.out)));(rfl))
 first|exact⟨_,[],rfl,by rw[HF.out];exact⟨noTipM,rfl,(fun _ _ _ _ _=>⟨rfl,TipOk.no _⟩),⟨w,rfl,TipOk.no _⟩⟩,HBEL.out,fun y hy=>by cases hy⟩|exact⟨[],by rw[HF.out];exact⟨noTipM,rfl,(fun _ _ _ _ _=>⟨rfl,TipOk.no _⟩),⟨w,rfl,TipOk.no _⟩⟩,HBEL.out,fun a b hy=>by cases hy⟩
theorem vbfirst_yes(bits:Nat)(w:World)(hb:bits<4294967296)(ht:Tables w)(k:isC bits=true):
  Hands 38 #[.int .u32 (bits:Int)] w (RTipE (firstK bits).1 (firstK bits).2):=by
 unfold Hands
 have HTG:Hid (Rt w 72 #[.int .u32 (bits:Int)] (.tuple #[.agg (wcs (tv bits)), .bool (isC bits)])):=fun u hu=>target_any bits u hb
 have HF:Hid (firstK bits=(tipK bits,true)):=by show _=_;unfold firstK;rw[if_pos k]
 rw[k]at HTG
 have HTP:Hid (∀(A1:Option Addr)(c1:Nat)(N1:Boxes)(u:World),FreshR 61 37 (appT [] (leafH (headK bits))).length ((appT [] (leafH (headK bits))).map totC).flatten (.slice A1 (appT [] (leafH (headK bits))).length c1) N1→(appT [] (leafH (headK bits))).length≤c1→c1≤maxLen→(∀y∈N1,u.heap[y.1]?=some y.2)→IsTip (tipK bits) ⟨⟨headK bits,[],none,0,0,[],none,0,0⟩,appT [] (leafH (headK bits)),A1,(appT [] (leafH (headK bits))).length,c1,[],none,0,0⟩ u):=fun A1 c1 N1 u h1 h2 h3 h4=>tip_first hb h1 h2 h3 h4
 have hok:=headK_ok hb
 obtain⟨X,hX⟩: ∃X,rootT []=X:=⟨_,rfl⟩
 obtain⟨Z,hZ⟩: ∃Z,noTot.h=Z:=⟨_,rfl⟩
 have HX:Hid (X.length=32):=by show _=_;rw[←hX];exact(root_id (l:=[]) (fun x h=>by cases h)).1
 have HZ:Hid (len32 noTot∧Z.length=32):=⟨noTot_ok.len,by rw[←hZ];exact noTot_ok.len⟩
 have hHE:headK bits=⟨0,z32,X,X,Z,0,bits,0⟩:=by unfold headK;rw[hX,hZ]
 have HZE:=hD hZ
 have HLR:Hid (Rt w 34 #[.slice none 0 0] (idv X)):=fun u hu=>by have h:=vlink_root [] none 0 0 u rfl (by omega) (by omega) (Nat.zero_le _) (fun x h=>by cases h) (IdsIn.nil _ _ _) (ht.below (EnvX.bel hu));rw[show leavesL []=[]from rfl,hX]at h;exact h
 have HCR:Hid (Rt w 81 #[.slice none 0 0] (idv X)):=fun u hu=>by have h:=prootX_any [] none 0 0 u rfl (by omega) (by omega) (Nat.zero_le _) ⟨fun h=>absurd h (Nat.lt_irrefl 0),fun t h=>by cases h⟩ (ht.below (EnvX.bel hu));rw[show idsX (rsT [])=[]from rfl,hX]at h;exact h
 have HRT:Hid (Rt w 31 #[.slice none 0 0] (totV noTot)):=fun u hu=>by have h:=mroot_any [] none 0 0 u rfl (by omega) (fun x h=>by cases h) (TotsIn.nil _ _ _) (ht.below (EnvX.bel hu));rw[show rootP []=noTot from rfl]at h;exact h
 obtain⟨H,hH⟩: ∃H,headK bits=H:=⟨_,rfl⟩
 rw[hH]at HTP hok hHE
 have HOK:=hD hok
 have HHE:=hD hHE
 have HLH:Hid (lenH H):=hok.len
 have HAP:Hid (∀u,EnvX w u []→Calls Tryz.prog 80 #[.slice none 0 0,hdV H] u fun e w'=>(∃v,e= .returned v∧w'.ownsRow u.heap.size 61 37 v (appT [] (leafH H)).length (((appT [] (leafH H)).map totC).flatten))∧Below u.heap.size u w'):=fun u hu=>vwithLeaf [] none 0 0 H u rfl (by omega) (fun _ h=>by cases h) (TotsIn.nil _ _ _) HOK.out (ht.below (EnvX.bel hu))
 have E1:Hid (EnvX w (w.alloc (.cells (tipA noTipM) 41)) [(w.heap.size,oc (tipA noTipM) 41)]):=(EnvX.start w).new _
 clear k hb hok hX hZ hHE hH ht
 go_enter func38,ntmps38
 go_upto_region 1 with (fail)
 rw[←zero_tipA]
 generalize w.alloc (.cells (tipA noTipM) 41)=W at *
 refine rgQ [0,1,2,3,4] [5,6,7] E1 rfl fun hw=>?_
 refine qo rfl hw ?_
 refine qc rfl func72 (fun u hu=>HTG.out u (nl hu)) hw ?_
 refine qw 3 hw ?_
 refine wpG_nil<|qn rfl (new_wide _) fun gt HGt he2=>?_
 change lexH _ _ _ _ _ _ [(gt,oc (wcs 0) 32),(w.heap.size,oc (tipA noTipM) 41)]
 refine(sh rfl HGt (wc_info _) ((wc_size _).trans (wc_size _).symm) (wc_one _) ?_)
 intro he3
 refine phE [7] [] he3 fun hw=>?_
 refine qo rfl hw ?_
 refine enP fun u6 EX5=>?_
 go_upto_region 2 with (fail)
 refine rgQ [0,1] [] EX5 rfl fun hw=>?_
 refine qw 2 hw ?_
 refine enP fun u9 EX8=>?_
 go_upto_region 4 with (fail)
 refine rgQ [0,1,2,3,4,5] [6,7] EX8 rfl fun hw=>?_
 refine qc rfl func34 (fun u hu=>HLR.out u (nl hu)) hw ?_
 refine qc rfl func81 (fun u hu=>HCR.out u (nl hu)) hw ?_
 refine qc rfl func31 (fun u hu=>HRT.out u (nl hu)) hw ?_
 refine qv (v:=idv Z) rfl (fun u hu=>by rw[←HZE.out];exact fieldH_op HZ.out.1 u rfl) hw ?_
 refine qo rfl hw ?_
 refine qv (v:= .agg (hdA H)) rfl (fun u hu=>buildA_op u (by rw[HHE.out];exact built_hdF HX.out HX.out HZ.out.2)) hw ?_
 refine wpG_nil<|qn rfl (new_hd _) fun g6 HG6 he11=>?_
 change lexH _ _ _ _ _ _ [(g6,oc (hdA noHd) 34),(gt,oc (wcs (tv bits)) 32),(w.heap.size,oc (tipA noTipM) 41)]
 refine(sh rfl HG6 (infoHd _ (hdA_size HLH.out)) ((hdA_size (h:=noHd) len_no).trans (hdA_size HLH.out).symm) (hdA_one _) ?_)
 refine fun _=>enL fun u14 EX13=>?_
 go_upto_region 5 with (fail)
 refine rgK [0,1,2] 4 EX13 rfl fun hw=>?_
 refine ql rfl mH HLH.out hw ?_
 refine qv (v:= .agg (blkA ⟨H,[],none,0,0,[],none,0,0⟩)) rfl (fun u hu=>buildA_op u (built_blkH HLH.out)) hw ?_
 refine ql rfl mH HLH.out hw ?_
 refine wpG_nil<|aO 3 (qr rfl func80 (fun u hu=>callsR_fresh (HAP.out u (nl hu))) ?_)
 rintro x N1 hF hf he16
 obtain⟨A1,c1,rfl,h1,h2⟩:=FreshR.formR hF
 have HF1:=hD (And.intro hF (And.intro h1 h2))
 have HNE:Hid (∀y∈N1,y.1≠w.heap.size):=fun y hy h=>(hf y hy).2 _ (mT (mT mH)) h.symm
 have HNL:Hid (∀y∈N1,w.heap.size≤y.1):=fun y hy=>(hf y hy).1
 clear hF h1 h2
 clear hf
 refine phF [4] 2 rfl he16 fun hw=>?_
 refine qv (v:= .agg (tipA ⟨⟨H,[],none,0,0,[],none,0,0⟩,appT [] (leafH H),A1,(appT [] (leafH H)).length,c1,[],none,0,0⟩)) rfl (fun u hu=>buildA_op u (built_tip2 (b:=⟨H,[],none,0,0,[],none,0,0⟩) HLH.out)) hw ?_
 refine wpG_nil<|aO 5 (hOp_store rfl (w.heap.size) (tipA ⟨⟨H,[],none,0,0,[],none,0,0⟩,appT [] (leafH H),A1,(appT [] (leafH H)).length,c1,[],none,0,0⟩) rfl rfl (Nat.le_refl _) 41 ((tipA noTipM)) (mR (mT (mT mH))) (infoTip _ (tipA_size HLH.out)) (tip_sizes HLH.out) (tipA_one _) ((w.heap.size,oc (tipA ⟨⟨H,[],none,0,0,[],none,0,0⟩,appT [] (leafH H),A1,(appT [] (leafH H)).length,c1,[],none,0,0⟩) 41)::(N1++[])) (mA ⟨.inl rfl,fun y hy=> .inr ⟨mL (by simpa using hy),HNE.out y (by simpa using hy)⟩⟩) ?_)
 intro he18
 refine phF [6] 0 rfl he18 fun hw=>?_
 refine qo rfl hw ?_
 refine eH fun u21 EX20=>?_
 have HMB:Hid (∀y∈N1,y∈((w.heap.size,oc (tipA ⟨⟨H,[],none,0,0,[],none,0,0⟩,appT [] (leafH H),A1,(appT [] (leafH H)).length,c1,[],none,0,0⟩) 41)::(N1++[]))):=fun y hy=>mT (mL hy)
 have HTT:Hid (KeptA N1 (IsTip (tipK bits) ⟨⟨H,[],none,0,0,[],none,0,0⟩,appT [] (leafH H),A1,(appT [] (leafH H)).length,c1,[],none,0,0⟩)):=fun w0 u M hu hM=>HTP.out A1 c1 N1 u HF1.out.1 HF1.out.2.1 HF1.out.2.2 (fun y hy=>EnvX.box hu _ _ (hM y hy))
 have HVV:Hid (∃v,IsTip (tipK bits) ⟨⟨H,[],none,0,0,[],none,0,0⟩,appT [] (leafH H),A1,(appT [] (leafH H)).length,c1,[],none,0,0⟩ v):=⟨_,HTT.out w u21 _ EX20.out HMB.out⟩
 have HFB:Hid (∀y∈N1,w.heap.size≤y.1∧u21.heap[y.1]?=some y.2):=fun y hy=>⟨HNL.out y hy,EnvX.box EX20.out _ _ (HMB.out y hy)⟩
 have Q0:=hD (EnvX.box EX20.out _ _ mH)
 have HBEL:=hD EX20.out.bel
 clear EX20
 go_wp2_with ((with_reducible refine bodyPost_ret (v:= .tuple #[.agg (tipA ⟨⟨H,[],none,0,0,[],none,0,0⟩,appT [] (leafH H),A1,(appT [] (leafH H)).length,c1,[],none,0,0⟩), .bool true]) ?_ ?_ ?_);(exact results_row_slot (p:=2) (q:=3) (ty:=41) results38 _ _ (w.heap.size) 41 (tipA ⟨⟨H,[],none,0,0,[],none,0,0⟩,appT [] (leafH H),A1,(appT [] (leafH H)).length,c1,[],none,0,0⟩) (0,0) _ rfl _ rfl Q0.out underlying41 rfl (infoTip _ (tipA_size (t:=⟨⟨H,[],none,0,0,[],none,0,0⟩,appT [] (leafH H),A1,(appT [] (leafH H)).length,c1,[],none,0,0⟩) HLH.out)));(rfl))
 first|exact⟨_,N1,rfl,by rw[HF.out];exact⟨⟨⟨H,[],none,0,0,[],none,0,0⟩,appT [] (leafH H),A1,(appT [] (leafH H)).length,c1,[],none,0,0⟩,rfl,HTT.out,HVV.out⟩,HBEL.out,HFB.out⟩|exact⟨N1,by rw[HF.out];exact⟨⟨⟨H,[],none,0,0,[],none,0,0⟩,appT [] (leafH H),A1,(appT [] (leafH H)).length,c1,[],none,0,0⟩,rfl,HTT.out,HVV.out⟩,HBEL.out,fun a b hy=>HFB.out (a,b) hy⟩
theorem vbfirst_sep(bits:Nat)(w:World)(hb:bits<4294967296)(ht:Tables w):
  Hands 38 #[.int .u32 (bits:Int)] w (RTipE (firstK bits).1 (firstK bits).2):=by
 unfold Hands
 cases k:isC bits with
 |false=>exact vbfirst_no bits w hb ht k
 |true=>exact vbfirst_yes bits w hb ht k
section
variable {a:Act}{dst:Option Tmp}{x:Operand}{ty:TypeId}{pos:String}{after:Array Edge}{gd:Option (Nat × Bool)}
end
theorem blk_put{b:BlkM}(k:lenH b.h){X:Hd}(kx:lenH X):(Tryz.prog.info? 34).map (·.size)=some (Value.agg (hdA X)).cells.size∧0+(Value.agg (hdA X)).cells.size≤(blkA b).size∧(Value.agg (hdA X)).cells.all (·.oneCell')=true∧(blkA b).toList.take 0++(Value.agg (hdA X)).cells.toList++(blkA b).toList.drop (0+(Value.agg (hdA X)).cells.size)=(blkA {b with h:=X}).toList:=by
 refine put_factsZ (z:=135) aggHd.size (hdA_size kx) (hdA_one _) (by rw[blkA_size k];omega) ?_
 show hdC X++_=(hdC b.h++_).take 0++hdC X++(hdC b.h++_).drop (0+135)
 rw[blkC_put k]
theorem vbmine_sep(t:TipM)(l:List TxM)(A:Option Addr)(n c nonce:Nat)(tries:Int)(w:World)(kt:TipOk w t)(mt:midTip t)(hl:l.length=n)(hnc:n≤c)(hcm:c≤maxLen)(hA:TxsIn w A l)(ml:midTxs l)(hno:nonce<18446744073709551616)(hti:I64 tries)(ht:Tables w):
  Hands 46 #[tipV t, .slice A n c, .int .u64 (nonce:Int), .int .i64 tries] w (RBlkE (mineK t.r (rsT l) nonce tries).1 (mineK t.r (rsT l) nonce tries).2):=by
 unfold Hands
 have HLT:Hid (lenH t.b.h):=kt.b.h.len
 have HLE:Hid (w.heap.size≤w.heap.size+1):=by show _≤_;omega
 have HNB:Hid (lenH noBlkM.h):=len_no
 have HM4:=mt.2.2.1
 have HL4:=kt.l4
 have HBH:Hid (∀u,EnvX w u []→Hands 75 #[tipV t, .slice A n c, .int .u64 (nonce:Int)] u (RBlk ⟨nextK t.r (rsT l) nonce,linksK t.r,rsT l⟩)):=fun u hu=>vbehind t l A n c nonce u (kt.up (EnvX.bel hu)) mt hl hnc hcm (hA.up (EnvX.bel hu)) ml hno (ht.below (EnvX.bel hu))
 obtain⟨K,hK⟩: ∃K,nextK t.r (rsT l) nonce=K:=⟨_,rfl⟩
 have hKo:okHd K:=by rw[←hK];exact nextK_ok (rsT l) (t:=t.r) kt.o3 kt.b.h.2.2.2.2.2.2.1 hno
 have HKK:=hD hK
 have HOK:=hD hKo
 rw[hK]at HBH
 have HMH:Hid (Rt w 100 #[hdV K] (.bool (decide (K.height<48)))):=fun u hu=>vmayHeight K u hKo
 obtain⟨q,er,hap⟩: ∃q er,applyP t.c (rsT l)=(q,er):=⟨_,_,rfl⟩
 have HAP:Hid (applyP t.r.c (rsT l)=(q,er)):=hap
 have HAPP:Hid (∀u,EnvX w u []→Calls Tryz.prog 78 #[.slice t.A4 t.n4 t.c4, .slice A n c] u fun e w'=>(∃v,e= .returned (.tuple #[v, .int .i64 (er:Int)])∧CoSl w' v q)∧Below u.heap.size u w'):=fun u hu=>by
  have h:=pApplyP_any t.c t.A4 t.n4 t.c4 l A n c u kt.l4 kt.b4.1 kt.b4.2 kt.o4 (CellsIn.up kt.m4 (EnvX.bel hu)) (by omega) hl hnc hcm (hA.up (EnvX.bel hu)) (ht.below (EnvX.bel hu))
  rw[hap]at h
  exact h
 obtain⟨X,bx,hmx⟩: ∃X bx,mineH K tries=(X,bx):=⟨_,_,rfl⟩
 have HMX:=hD hmx
 have HOX:Hid (okHd X):=by have h:=okHd_mineB hKo tries;rw[hmx]at h;exact h
 have HMI:Hid (Rt w 101 #[hdV K, .int .i64 tries] (.tuple #[hdV X, .bool bx])):=fun u hu=>by have h:=hmine_any K tries u hKo hti (ht.below (EnvX.bel hu));rw[hmx]at h;exact h
 obtain⟨mh,hmh⟩: ∃mh,decide (K.height<48)=mh:=⟨_,rfl⟩
 have HMH2:=hD hmh
 rw[hmh]at HMH
 have E1:Hid (EnvX w ((w.alloc (.cells (tipA t) 41)).alloc (.cells (blkA noBlkM) 37)) [(w.heap.size+1,oc (blkA noBlkM) 37),(w.heap.size,oc (tipA t) 41)]):=(EnvX.start w).two _ _
 clear kt mt hl hnc hcm hA ml hno ht hti hK hKo hap hmx HM4 HL4 hmh
 unfold tipV
 go_enter func46,ntmps46
 go_upto_region 1 with (fail)
 rw[←zero_blkA]
 generalize (w.alloc (.cells (tipA t) 41)).alloc (.cells (blkA noBlkM) 37)=W at *
 refine rgQ [0,1,2] [3,4,5] E1 rfl fun hw=>?_
 refine ql rfl (mT mH) HLT.out hw ?_
 refine qw 2 hw ?_
 refine wpG_nil<|qr rfl func75 (fun u hu=>HBH.out u (nl hu)) ?_
 rintro x N3 hF hf he2
 obtain⟨b3,rfl,kk,kv⟩:=hF
 have HKK_:=hD kk
 have HKV:=hD kv
 have HN3:Hid (∀y∈N3,w.heap.size≤y.1∧y.1≠w.heap.size+1):=fun y hy=>⟨(hf y hy).1,fun h=>(hf y hy).2 _ mH h.symm⟩
 clear kk kv
 have HHB:Hid (b3.h=K):=by obtain⟨v,hv⟩:=HKV.out;exact congrArg BlkR.h hv.1
 have HLB:Hid (lenH b3.h):=by show lenH _;rw[HHB.out];exact HOK.out.len
 clear hf
 change lexH _ _ _ _ _ _ (N3++((w.heap.size+1,oc (blkA noBlkM) 37)::((w.heap.size,oc (tipA t) 41)::[])))
 refine qn rfl (new_blk _) fun g4 HG4 he3=>?_
 change lexH _ _ _ _ _ _ ((g4,oc (blkA noBlkM) 37)::(N3++((w.heap.size+1,oc (blkA noBlkM) 37)::((w.heap.size,oc (tipA t) 41)::[]))))
 refine(sh rfl HG4 (infoBlk _ (blkA_size HLB.out)) (blk_sizes HLB.out) (blkA_one _) ?_)
 refine fun _=>enL fun u6 EX5=>?_
 have HG4G:Hid (g4≠w.heap.size+1):=fun h=>HG4.out.2 _ (mR mH) h.symm
 have HG43:Hid (∀y∈N3,y.1≠g4):=fun y hy=>HG4.out.2 y (mL hy)
 cases mh with
 |false=>
  have h1:48≤K.height:=by have:=of_decide_eq_false HMH2.out;omega
  have H1:=hD h1
  clear h1
  go_upto_region 2 with (fail)
  refine rgQ [0,1,2,3] [] EX5 rfl fun hw=>?_
  refine qf rfl hw ?_
  refine qv (v:=hdV K) rfl (fun u hu=>by rw[←HHB.out];exact load_any_op u (loads_hd HLB.out (box_blk_hd hu mH HLB.out)).1 rfl) hw ?_
  refine qc rfl func100 (fun u hu=>HMH.out u (nl hu)) hw ?_
  refine qo rfl hw ?_
  refine enP fun u9 EX8=>?_
  have HF:Hid (mineK t.r (rsT l) nonce tries=(noBlk,3)):=mine_e3 HKK.out H1.out
  go_upto_region 3 with (fail)
  refine rgQ [0] [1,2] EX8 rfl fun hw=>?_
  refine qv (v:= .agg (blkA noBlkM)) rfl (fun u hu=>buildA_op u built_blk0) hw ?_
  refine wpG_nil<|(so rfl HLE.out (mT (mR mH)) (infoBlk _ (blkA_size HNB.out)) (blk_sizes HNB.out) (blkA_one _) ?_)
  intro he11
  refine phE [2] [] he11 fun hw=>?_
  refine qo rfl hw ?_
  refine enP fun u14 EX13=>?_
  have Q0:=hD (EnvX.box EX13.out _ _ mH)
  have HBEL:=hD EX13.out.bel
  clear EX13
  go_wp2_with ((with_reducible refine bodyPost_ret (v:= .tuple #[.agg (blkA noBlkM), .int .i64 3]) ?_ ?_ ?_);(exact results_row_slot (p:=8) (q:=9) (ty:=37) results46 _ _ (w.heap.size+1) 37 (blkA noBlkM) (0,0) _ rfl _ rfl Q0.out underlying37 rfl (infoBlk _ (blkA_size HNB.out)));(rfl))
  first|exact⟨_,[],rfl,by rw[HF.out];exact⟨noBlkM,rfl,(fun _ _ _ _ _=>⟨rfl,BlkOk.no _⟩),⟨w,rfl,BlkOk.no _⟩⟩,HBEL.out,fun y hy=>by cases hy⟩|exact⟨[],by rw[HF.out];exact⟨noBlkM,rfl,(fun _ _ _ _ _=>⟨rfl,BlkOk.no _⟩),⟨w,rfl,BlkOk.no _⟩⟩,HBEL.out,fun a b hy=>by cases hy⟩
 | true=>
  have h1: ¬48≤K.height:=by have:=of_decide_eq_true HMH2.out;omega
  have H1:=hD h1
  clear h1
  go_upto_region 2 with (fail)
  refine rgQ [0,1,2,3] [] EX5 rfl fun hw=>?_
  refine qf rfl hw ?_
  refine qv (v:=hdV K) rfl (fun u hu=>by rw[←HHB.out];exact load_any_op u (loads_hd HLB.out (box_blk_hd hu mH HLB.out)).1 rfl) hw ?_
  refine qc rfl func100 (fun u hu=>HMH.out u (nl hu)) hw ?_
  refine qo rfl hw ?_
  refine enP fun u9 EX8=>?_
  go_upto_region 4 with (fail)
  refine rgQ [0,1,2] [3,4,5,6,7,8] EX8 rfl fun hw=>?_
  refine qf rfl hw ?_
  refine ql rfl (mT (mR (mT mH))) HLT.out hw ?_
  refine qo rfl hw ?_
  refine wpG_nil<|(hOp_turn (gd:=none) (R:=fun x M'=> ∃A c N,x= .tuple #[.slice A (q).length c, .int .i64 (er:Int)]∧M'=N++((g4,oc (blkA b3) 37)::(N3++((w.heap.size+1,oc (blkA noBlkM) 37)::((w.heap.size,oc (tipA t) 41)::[]))))∧((q).length≤c∧c≤maxLen)∧CoB (q) A N) rfl rfl rfl rfl (fun u hu=>OUpon_call (fid:=78) (xs:= #[.tmp 26, .tmp 27]) (args:= #[.slice t.A4 t.n4 t.c4, .slice A n c]) rfl func78 rfl rfl u (co_turn2 (HAPP.out u (nl hu)) hu)) ?_)
  rintro _ _ ⟨A8,c8,N8,rfl,rfl,hc8,hb8⟩ he11;intro K' hK';go_big_quiet_op;go_big_quiet_on
  have HC8:=hD hc8
  have HB8:=hD hb8
  clear hc8 hb8
  refine phE [4,5,6,7,8] [] he11 fun hw=>?_
  refine qw 5 hw ?_
  refine enP fun u14 EX13=>?_
  have E8:Hid (EnvX w u14 ((g4,oc (blkA b3) 37)::(N3++((w.heap.size+1,oc (blkA noBlkM) 37)::((w.heap.size,oc (tipA t) 41)::[]))))):=EnvX.sub EX13.out (fun y hy=>mR (by simpa using hy))
  clear EX13 HB8 HC8
  cases er with
  |succ e=>
   have DE:Hid (decide (((e+1:Nat):Int)≠0)=true):=decide_eq_true (by omega)
   go_upto_region 5 with (fail)
   refine rgQ [0,1] [] E8 rfl fun hw=>?_
   refine qo rfl hw ?_
   refine qv rfl (fun u hu=>neErr_op u DE.out rfl rfl) hw ?_
   refine enP fun u17 EX16=>?_
   have HF:Hid (mineK t.r (rsT l) nonce tries=(noBlk,e+1)):=by show _=_;rw[mine_ee HKK.out H1.out (by rw[HAP.out];exact Nat.succ_ne_zero e),HAP.out]
   go_upto_region 6 with (fail)
   refine rgQ [0,1] [2,3] EX16 rfl fun hw=>?_
   refine qv (v:= .agg (blkA noBlkM)) rfl (fun u hu=>buildA_op u built_blk0) hw ?_
   refine qo rfl hw ?_
   refine wpG_nil<|(so rfl HLE.out (mT (mR mH)) (infoBlk _ (blkA_size HNB.out)) (blk_sizes HNB.out) (blkA_one _) ?_)
   intro he19
   refine phE [3] [] he19 fun hw=>?_
   refine qo rfl hw ?_
   refine enP fun u22 EX21=>?_
   have Q0:=hD (EnvX.box EX21.out _ _ mH)
   have HBEL:=hD EX21.out.bel
   clear EX21
   go_wp2_with ((with_reducible refine bodyPost_ret (v:= .tuple #[.agg (blkA noBlkM), .int .i64 ((e+1:Nat):Int)]) ?_ ?_ ?_);(exact results_row_slot (p:=8) (q:=9) (ty:=37) results46 _ _ (w.heap.size+1) 37 (blkA noBlkM) (0,0) _ rfl _ rfl Q0.out underlying37 rfl (infoBlk _ (blkA_size HNB.out)));(rfl))
   first|exact⟨_,[],rfl,by rw[HF.out];exact⟨noBlkM,rfl,(fun _ _ _ _ _=>⟨rfl,BlkOk.no _⟩),⟨w,rfl,BlkOk.no _⟩⟩,HBEL.out,fun y hy=>by cases hy⟩|exact⟨[],by rw[HF.out];exact⟨noBlkM,rfl,(fun _ _ _ _ _=>⟨rfl,BlkOk.no _⟩),⟨w,rfl,BlkOk.no _⟩⟩,HBEL.out,fun a b hy=>by cases hy⟩
  | zero=>
   have DE:Hid (decide (((0:Nat):Int)≠0)=false):=decide_eq_false (by omega)
   go_upto_region 5 with (fail)
   refine rgQ [0,1] [] E8 rfl fun hw=>?_
   refine qo rfl hw ?_
   refine qv rfl (fun u hu=>neErr_op u DE.out rfl rfl) hw ?_
   refine enP fun u17 EX16=>?_
   have HA0:Hid (¬(applyP t.r.c (rsT l)).2≠0):=by show¬_;rw[HAP.out];exact fun h=>h rfl
   go_upto_region 7 with (fail)
   refine rgQ [0,1,2,3,4,5,6] [7,8,9] EX16 rfl fun hw=>?_
   refine qf rfl hw ?_
   refine qv (v:=hdV K) rfl (fun u hu=>by rw[←HHB.out];exact load_any_op u (loads_hd HLB.out (box_blk_hd hu mH HLB.out)).1 rfl) hw ?_
   refine qo rfl hw ?_
   refine qc rfl func101 (fun u hu=>HMI.out u (nl hu)) hw ?_
   refine qw 3 hw ?_
   refine wpG_nil<|qn rfl (new_hd _) fun g7 HG7 he19=>?_
   change lexH _ _ _ _ _ _ ((g7,oc (hdA noHd) 34)::((g4,oc (blkA b3) 37)::(N3++((w.heap.size+1,oc (blkA noBlkM) 37)::((w.heap.size,oc (tipA t) 41)::[])))))
   refine(sh rfl HG7 (infoHd _ (hdA_size HOX.out.len)) ((hdA_size (h:=noHd) len_no).trans (hdA_size HOX.out.len).symm) (hdA_one _) ?_)
   intro he20
   refine phE [9] [] he20 fun hw=>?_
   refine qo rfl hw ?_
   refine enP fun u23 EX22=>?_
   cases bx with
   |false=>
    go_upto_region 8 with (fail)
    refine rgQ [0,1] [] EX22 rfl fun hw=>?_
    refine qw 2 hw ?_
    refine enP fun u26 EX25=>?_
    have HF:Hid (mineK t.r (rsT l) nonce tries=(noBlk,4)):=mine_e4 HKK.out H1.out HA0.out (by rw[HMX.out])
    go_upto_region 9 with (fail)
    refine rgQ [0] [1,2] EX25 rfl fun hw=>?_
    refine qv (v:= .agg (blkA noBlkM)) rfl (fun u hu=>buildA_op u built_blk0) hw ?_
    refine wpG_nil<|(so rfl HLE.out (mT (mT (mR mH))) (infoBlk _ (blkA_size HNB.out)) (blk_sizes HNB.out) (blkA_one _) ?_)
    intro he28
    refine phE [2] [] he28 fun hw=>?_
    refine qo rfl hw ?_
    refine enP fun u31 EX30=>?_
    have Q0:=hD (EnvX.box EX30.out _ _ mH)
    have HBEL:=hD EX30.out.bel
    clear EX30
    go_wp2_with ((with_reducible refine bodyPost_ret (v:= .tuple #[.agg (blkA noBlkM), .int .i64 4]) ?_ ?_ ?_);(exact results_row_slot (p:=8) (q:=9) (ty:=37) results46 _ _ (w.heap.size+1) 37 (blkA noBlkM) (0,0) _ rfl _ rfl Q0.out underlying37 rfl (infoBlk _ (blkA_size HNB.out)));(rfl))
    first|exact⟨_,[],rfl,by rw[HF.out];exact⟨noBlkM,rfl,(fun _ _ _ _ _=>⟨rfl,BlkOk.no _⟩),⟨w,rfl,BlkOk.no _⟩⟩,HBEL.out,fun y hy=>by cases hy⟩|exact⟨[],by rw[HF.out];exact⟨noBlkM,rfl,(fun _ _ _ _ _=>⟨rfl,BlkOk.no _⟩),⟨w,rfl,BlkOk.no _⟩⟩,HBEL.out,fun a b hy=>by cases hy⟩
   | true=>
    go_upto_region 8 with (fail)
    refine rgQ [0,1] [] EX22 rfl fun hw=>?_
    refine qw 2 hw ?_
    refine enP fun u26 EX25=>?_
    go_upto_region 10 with (fail)
    refine rgQ [0,1] [2] EX25 rfl fun hw=>?_
    refine qv rfl (fun u hu=>load_any_op u (loads_hd HOX.out.len (box_list hu mH)).1 rfl) hw ?_
    refine qf rfl hw ?_
    refine wpG_nil<|(hOp_putAt rfl (g4) (0) (.agg (hdA X)) rfl rfl HG4.out.1 37 ((blkA b3)) (blkA {b3 with h:=X}) (mT mH) (blk_put HLB.out HOX.out.len).1 (blk_put HLB.out HOX.out.len).2.1 (blk_put HLB.out HOX.out.len).2.2.1 (blk_put HLB.out HOX.out.len).2.2.2 ((g4,oc (blkA {b3 with h:=X}) 37)::(N3++((w.heap.size+1,oc (blkA noBlkM) 37)::((w.heap.size,oc (tipA t) 41)::[])))) (mA ⟨.inl rfl,fun y hy=> .inr ((List.mem_append.1 hy).elim (fun h=>⟨mT (mT (mL h)),HG43.out y h⟩) (fun h=>⟨mT (mT (mR h)),HG4.out.2 y (mR h)⟩))⟩) ?_)
    refine fun _=>enL fun u30 EX29=>?_
    have HLX:Hid (lenH ({b3 with h:=X}:BlkM).h):=HOX.out.len
    have HF:Hid (mineK t.r (rsT l) nonce tries=(⟨X,linksK t.r,rsT l⟩,0)):=by show _=_;rw[mine_go HKK.out H1.out HA0.out (by rw[HMX.out]),HMX.out]
    go_upto_region 11 with (fail)
    refine rgQ [0] [1,2] EX29 rfl fun hw=>?_
    refine qv rfl (fun u hu=>load_any_op u (box_blk (b:={b3 with h:=X}) hu mH HLX.out) rfl) hw ?_
    refine wpG_nil<|(hOp_store rfl (w.heap.size+1) (blkA {b3 with h:=X}) rfl rfl HLE.out 37 ((blkA noBlkM)) (mT (mR mH)) (infoBlk _ (blkA_size (b:={b3 with h:=X}) HLX.out)) (blk_sizes (b:={b3 with h:=X}) HLX.out) (blkA_one _) ((w.heap.size+1,oc (blkA {b3 with h:=X}) 37)::(N3++[])) (mA ⟨.inl rfl,fun y hy=> .inr ⟨mT (mL (by simpa using hy)),(HN3.out y (by simpa using hy)).2⟩⟩) ?_)
    intro he32
    refine phE [2] [] he32 fun hw=>?_
    refine qo rfl hw ?_
    refine enP fun u35 EX34=>?_
    have HTT:Hid (KeptA N3 (IsBlk ⟨X,linksK t.r,rsT l⟩ {b3 with h:=X})):=fun w0 u M hu hM=>by
     have h:=HKK_.out w0 u M hu hM
     exact⟨by show BlkR.mk X b3.l (rsT b3.t)=_;rw[show b3.l=linksK t.r from congrArg BlkR.l h.1,show rsT b3.t=rsT l from congrArg BlkR.t h.1],⟨HOX.out,h.2.l1,h.2.b1,h.2.o1,h.2.m1,h.2.l2,h.2.b2,h.2.m2⟩⟩
    have HMB:Hid (∀y∈N3,y∈((w.heap.size+1,oc (blkA {b3 with h:=X}) 37)::(N3++[]))):=fun y hy=>mT (by simpa using hy)
    have HVV:Hid (∃v,IsBlk ⟨X,linksK t.r,rsT l⟩ {b3 with h:=X} v):=⟨_,HTT.out w u35 _ EX34.out HMB.out⟩
    have HFB:Hid (∀y∈N3,w.heap.size≤y.1∧u35.heap[y.1]?=some y.2):=fun y hy=>⟨(HN3.out y hy).1,EnvX.box EX34.out _ _ (HMB.out y hy)⟩
    have Q0:=hD (EnvX.box EX34.out _ _ mH)
    have HBEL:=hD EX34.out.bel
    clear EX34
    go_wp2_with ((with_reducible refine bodyPost_ret (v:= .tuple #[.agg (blkA {b3 with h:=X}), .int .i64 0]) ?_ ?_ ?_);(exact results_row_slot (p:=8) (q:=9) (ty:=37) results46 _ _ (w.heap.size+1) 37 (blkA {b3 with h:=X}) (0,0) _ rfl _ rfl Q0.out underlying37 rfl (infoBlk _ (blkA_size (b:={b3 with h:=X}) HLX.out)));(rfl))
    first|exact⟨_,N3,rfl,by rw[HF.out];exact⟨{b3 with h:=X},rfl,HTT.out,HVV.out⟩,HBEL.out,HFB.out⟩|exact⟨N3,by rw[HF.out];exact⟨{b3 with h:=X},rfl,HTT.out,HVV.out⟩,HBEL.out,fun a b hy=>HFB.out (a,b) hy⟩
theorem kont4{α β γ δ:Sort _}{F P:α→β→γ→δ→Prop}{G:Prop}(h:(∀a b c d,F a b c d→P a b c d)→G)(k: ∀a b c d,F a b c d→P a b c d):G:=h k
theorem FK_push{t:TipR}{b:BlkR}{K:Hd}{d:Hd}{dl:List (List Int)}(hK:nextK t b.t b.h.nonce=K)(hd:d=K)(hl:dl=linksK t){e:Nat}(he:FK (decide (b.h.height<48)) (eqPl b.h d) (decide (b.l=dl) && eqL b.h.links d.links) (eqRo b.h d) (mayH b.h)=e+1):pushK t b=(t,e+1):=by
 subst hd hl
 unfold FK at he
 by_cases h1:b.h.height<48
 case neg=>
  rw[if_pos (decide_eq_false h1)]at he
  rw[←he]
  exact push_e3 (by omega)
 rw[if_neg (by rw[decide_eq_true h1];decide)]at he
 have n1: ¬48≤b.h.height:=by omega
 by_cases h2:b.h.height=d.height∧b.h.prev=d.prev∧b.h.bits=d.bits
 case neg=>
  rw[if_pos (show eqPl b.h d=false from decide_eq_false h2)]at he
  rw[←he]
  exact push_e5 hK n1 h2
 rw[if_neg (by unfold eqPl;rw[decide_eq_true h2];decide)]at he
 by_cases h3:b.l=linksK t∧b.h.links=d.links
 case neg=>
  rw[if_pos (by unfold eqL;rw[←Bool.decide_and];exact decide_eq_false h3)]at he
  rw[←he]
  exact push_e6 hK n1 h2 h3
 rw[if_neg (by unfold eqL;rw[←Bool.decide_and,decide_eq_true h3];decide)]at he
 by_cases h4:b.h.txs=d.txs∧b.h.past=d.past∧b.h.work=d.work
 case neg=>
  rw[if_pos (show eqRo b.h d=false from decide_eq_false h4)]at he
  rw[←he]
  exact push_e7 hK n1 h2 h3 h4
 rw[if_neg (by unfold eqRo;rw[decide_eq_true h4];decide)]at he
 rw[push_rest hK n1 h2 h3 h4]
 cases h5:mayH b.h with
 |false=>
  rw[if_pos h5]at he
  rw[if_pos rfl,←he]
 |true=>
  rw[if_neg (by rw[h5];decide)]at he
  cases he
theorem FK_zero{t:TipR}{b:BlkR}{K:Hd}{d:Hd}{dl:List (List Int)}(hK:nextK t b.t b.h.nonce=K)(hd:d=K)(hl:dl=linksK t)(he:FK (decide (b.h.height<48)) (eqPl b.h d) (decide (b.l=dl) && eqL b.h.links d.links) (eqRo b.h d) (mayH b.h)=0):
  pushK t b=if (applyP t.c b.t).2≠0 then (t,(applyP t.c b.t).2)else (⟨b,appT t.p (leafH b.h),(applyP t.c b.t).1⟩,0):=by
 subst hd hl
 unfold FK at he
 by_cases h1:b.h.height<48
 case neg=>rw[if_pos (decide_eq_false h1)]at he;cases he
 rw[if_neg (by rw[decide_eq_true h1];decide)]at he
 by_cases h2:b.h.height=d.height∧b.h.prev=d.prev∧b.h.bits=d.bits
 case neg=>rw[if_pos (show eqPl b.h d=false from decide_eq_false h2)]at he;cases he
 rw[if_neg (by unfold eqPl;rw[decide_eq_true h2];decide)]at he
 by_cases h3:b.l=linksK t∧b.h.links=d.links
 case neg=>rw[if_pos (by unfold eqL;rw[←Bool.decide_and];exact decide_eq_false h3)]at he;cases he
 rw[if_neg (by unfold eqL;rw[←Bool.decide_and,decide_eq_true h3];decide)]at he
 by_cases h4:b.h.txs=d.txs∧b.h.past=d.past∧b.h.work=d.work
 case neg=>rw[if_pos (show eqRo b.h d=false from decide_eq_false h4)]at he;cases he
 rw[if_neg (by unfold eqRo;rw[decide_eq_true h4];decide)]at he
 rw[push_rest hK (by omega) h2 h3 h4]
 cases h5:mayH b.h with
 |false=>rw[if_pos h5]at he;cases he
 |true=>rw[if_neg (by decide)]
theorem vbpush_sep(t:TipM)(b:BlkM)(w:World)(kt:TipOk w t)(mt:midTip t)(kb:BlkOk w b)(mb:midBlk b)(ht:Tables w):
  Calls Tryz.prog 36 #[tipV t,blkV b] w fun e w'=>(∃u:TipM,e= .returned (.tuple #[tipV u, .int .i64 ((pushK t.r b.r).2:Int)])∧IsTip (pushK t.r b.r).1 u w'∧((pushK t.r b.r).2=0→SepT (pushK t.r b.r).1 u w.heap.size w'))∧Below w.heap.size w w':=by
 have HLT:Hid (lenH t.b.h):=kt.b.h.len
 have HOB:Hid (okHd b.h):=kb.h
 have HLE:Hid (w.heap.size≤w.heap.size+1+1):=by show _≤_;omega
 have hm1:=kt.l3
 have hm4:=mt.2.1
 have hm5:=kb.l1
 have hm6:=mb.1
 have hm9:=mt.2.2.1
 have hm0:=kt.l4
 obtain⟨K,hK⟩: ∃K,nextK t.r b.r.t b.r.h.nonce=K:=⟨_,rfl⟩
 have hK':nextK t.r (rsT b.t) b.h.nonce=K:=hK
 have hKo:okHd K:=by rw[←hK];exact nextK_ok (rsT b.t) (t:=t.r) kt.o3 kt.b.h.2.2.2.2.2.2.1 kb.h.2.2.2.2.2.2.2
 have HKQ:=hD hK
 have HOK:=hD hKo
 have HBH:Hid (∀u,EnvX w u []→Hands 75 #[tipV t, .slice b.A2 b.n2 b.c2, .int .u64 (b.h.nonce:Int)] u (RBlk ⟨K,linksK t.r,rsT b.t⟩)):=fun u hu=>by rw[←hK'];exact vbehind t b.t b.A2 b.n2 b.c2 b.h.nonce u (kt.up (EnvX.bel hu)) mt kb.l2 kb.b2.1 kb.b2.2 (kb.m2.up (EnvX.bel hu)) mb.2 kb.h.2.2.2.2.2.2.2 (ht.below (EnvX.bel hu))
 have HFT:Hid (∀(u:World)(d:BlkM),EnvX w u []→d.h=K→d.l=linksK t.r→BlkOk u d→Calls Tryz.prog 76 #[trV b d] u fun e w'=>e= .returned (.int .i64 (FK (decide (b.h.height<48)) (eqPl b.h d.h) (decide (b.l=d.l) && eqL b.h.links d.h.links) (eqRo b.h d.h) (mayH b.h):Int))∧Below u.heap.size u w'):=fun u d hu e1 e2 hd=>vfault b d u kb.h hd.h kb.l1 hd.l1 kb.b1 hd.b1 kb.o1 hd.o1 (by omega) (by have h:=hd.l1;rw[e2]at h;have:=linksK_len t.r;omega) (kb.m1.up (EnvX.bel hu)) hd.m1 (ht.below (EnvX.bel hu))
 have HCP:Hid (∀u,EnvX w u []→Hands 77 #[tipV t] u (RTip t.r)):=fun u hu=>vcopyTip t u (kt.up (EnvX.bel hu)) mt
 have HCB:Hid (∀u,EnvX w u []→Hands 79 #[blkV b] u (RBlk b.r)):=fun u hu=>vcopyBlock b u (kb.up (EnvX.bel hu)) mb
 obtain⟨q,er,hap⟩: ∃q er,applyP t.c (rsT b.t)=(q,er):=⟨_,_,rfl⟩
 have HAP:Hid (applyP t.r.c b.r.t=(q,er)):=hap
 have HOQ:Hid (okP q):=apply_okP kt.o4 (rsT b.t) hap
 have HAPP:Hid (∀u,EnvX w u []→Calls Tryz.prog 78 #[.slice t.A4 t.n4 t.c4, .slice b.A2 b.n2 b.c2] u fun e w'=>(∃v,e= .returned (.tuple #[v, .int .i64 (er:Int)])∧CoSl w' v q)∧Below u.heap.size u w'):=fun u hu=>by
  have h:=pApplyP_any t.c t.A4 t.n4 t.c4 b.t b.A2 b.n2 b.c2 u kt.l4 kt.b4.1 kt.b4.2 kt.o4 (CellsIn.up kt.m4 (EnvX.bel hu)) (by omega) kb.l2 kb.b2.1 kb.b2.2 (kb.m2.up (EnvX.bel hu)) (ht.below (EnvX.bel hu))
  rw[hap]at h
  exact h
 have HPA:Hid (∀u,EnvX w u []→Calls Tryz.prog 80 #[.slice t.A3 t.n3 t.c3,hdV b.h] u fun e w'=>(∃v,e= .returned v∧w'.ownsRow u.heap.size 61 37 v (appT t.p (leafH b.h)).length (((appT t.p (leafH b.h)).map totC).flatten))∧Below u.heap.size u w'):=fun u hu=>vwithLeaf t.p t.A3 t.n3 t.c3 b.h u kt.l3 (by omega) kt.o3 (CellsIn.up kt.m3 (EnvX.bel hu)) kb.h (ht.below (EnvX.bel hu))
 have HOP:Hid (okTs (appT t.p (leafH b.h))):=app_ok kt.o3 (leafH_ok _)
 have E1:Hid (EnvX w (((w.alloc (.cells (tipA t) 41)).alloc (.cells (blkA b) 37)).alloc (.cells (tipA noTipM) 41)) [(w.heap.size+1+1,oc (tipA noTipM) 41),(w.heap.size+1,oc (blkA b) 37),(w.heap.size,oc (tipA t) 41)]):=EnvX.three _ _ _
 clear kt mt kb mb ht hm1 hm4 hm5 hm6 hm9 hm0 hK hK' hKo hap
 unfold tipV blkV
 go_enter func36,ntmps36
 go_upto_region 1 with (fail)
 rw[←zero_tipA]
 generalize ((w.alloc (.cells (tipA t) 41)).alloc (.cells (blkA b) 37)).alloc (.cells (tipA noTipM) 41)=W at *
 apply kont4 (F:=fun(d:BlkM)(N1:Boxes)(g6:Nat)(u:World)=>KeptA N1 (IsBlk ⟨K,linksK t.r,rsT b.t⟩ d)∧(∃v,IsBlk ⟨K,linksK t.r,rsT b.t⟩ d v)∧w.heap.size≤g6∧(∀y∈N1,w.heap.size≤y.1∧y.1≠w.heap.size+1+1)∧EnvX w u ((g6,oc (trA b d) 112)::(N1++[(w.heap.size+1+1,oc (tipA noTipM) 41),(w.heap.size+1,oc (blkA b) 37),(w.heap.size,oc (tipA t) 41)])))
 case h=>
  intro KONT
  refine rgK [0,1,2,3,4,5,6] 4 E1 rfl fun hw=>?_
  refine ql rfl (mT mH) HOB.out.len hw ?_
  refine ql rfl (mT (mT mH)) HLT.out hw ?_
  refine qf rfl hw ?_
  refine ql rfl (mT mH) HOB.out.len hw ?_
  refine qw 2 hw ?_
  refine qv rfl (fun u hu=>load_any_op u (loads_hd HOB.out.len (box_blk_hd hu (mT mH) HOB.out.len)).2.2.2.2.2.2.2.2 rfl) hw ?_
  refine wpG_nil<|anyH_two (i:=7) (j:=9) (by kernel_rfl) ?_ ?_
  · skip
    refine qr rfl func75 (fun u hu=>HBH.out u (nl hu)) ?_
    rintro x N1 hF hf he2
    obtain⟨d,rfl,kd,kv⟩:=hF
    have HKD:=hD kd
    have HKV:=hD kv
    have HHD:Hid (d.h=K):=by obtain⟨v,hv⟩:=HKV.out;exact congrArg BlkR.h hv.1
    have HLD:Hid (lenH d.h):=by show lenH _;rw[HHD.out];exact HOK.out.len
    have HN1:Hid (∀y∈N1,w.heap.size≤y.1∧y.1≠w.heap.size+1+1):=fun y hy=>⟨(hf y hy).1,fun h=>(hf y hy).2 _ mH h.symm⟩
    clear kd kv
    clear hf
    refine phF [8] 2 rfl he2 fun hw=>?_
    refine qv (v:= .agg (trA b d)) rfl (fun u hu=>buildA_op u (built_tr HOB.out.len HLD.out)) hw ?_
    refine wpG_nil<|aO 9 (hOp_fresh (R:=fun x N=> ∃g,x= .pointer (some ⟨g,0,none⟩)∧N=[(g,oc (trA noBlkM noBlkM) 112)]) (M0:=(N1++((w.heap.size+1+1,oc (tipA noTipM) 41)::((w.heap.size+1,oc (blkA b) 37)::((w.heap.size,oc (tipA t) 41)::[]))))) rfl rfl (fun _ h=>h) (fun u hu=>FAt_new (new_tr _) u) ?_)
    rintro _ _ ⟨g6,rfl,rfl⟩ hf he4;intro K' hK';go_big_quiet_op;go_big_quiet_on
    have HG6:=hD (hf _ (mS.2 rfl))
    have HGA:Hid (∀y∈N1++[(w.heap.size+1+1,oc (tipA noTipM) 41),(w.heap.size+1,oc (blkA b) 37),(w.heap.size,oc (tipA t) 41)],y.1≠g6):=fun y hy=>HG6.out.2 y hy
    clear hf
    change anyH _ _ _ _ _ _ _ _ ((g6,oc (trA noBlkM noBlkM) 112)::(N1++((w.heap.size+1+1,oc (tipA noTipM) 41)::((w.heap.size+1,oc (blkA b) 37)::((w.heap.size,oc (tipA t) 41)::[])))))
    refine aO 10 (hOp_store rfl (g6) (trA b d) rfl rfl HG6.out.1 112 ((trA noBlkM noBlkM)) mH (infoTr _ (trA_size HOB.out.len HLD.out)) ((trA_size (b:=noBlkM) (d:=noBlkM) len_no len_no).trans (trA_size HOB.out.len HLD.out).symm) (trA_one _ _) ((g6,oc (trA b d) 112)::(N1++((w.heap.size+1+1,oc (tipA noTipM) 41)::((w.heap.size+1,oc (blkA b) 37)::((w.heap.size,oc (tipA t) 41)::[]))))) (mA ⟨.inl rfl,fun y hy=> .inr ⟨by first|exact mT hy|exact(List.mem_append.1 hy).elim (fun h=>mL h) (fun h=>mR (mT h)),HGA.out y hy⟩⟩) ?_)
    intro he5
    refine eM fun u7 EX6=>?_
    exact KONT d N1 g6 u7 ⟨HKD.out,HKV.out,HG6.out.1,HN1.out,EX6.out⟩
  · skip
    refine qn rfl (new_tr _) fun g6 HG6 he8=>?_
    change anyH _ _ _ _ _ _ _ _ [(g6,oc (trA noBlkM noBlkM) 112),(w.heap.size+1+1,oc (tipA noTipM) 41),(w.heap.size+1,oc (blkA b) 37),(w.heap.size,oc (tipA t) 41)]
    refine aO 7 (qr rfl func75 (fun u hu=>HBH.out u (nl hu)) ?_)
    rintro x N1 hF hf he9
    obtain⟨d,rfl,kd,kv⟩:=hF
    have HKD:=hD kd
    have HKV:=hD kv
    have HHD:Hid (d.h=K):=by obtain⟨v,hv⟩:=HKV.out;exact congrArg BlkR.h hv.1
    have HLD:Hid (lenH d.h):=by show lenH _;rw[HHD.out];exact HOK.out.len
    have HN1:Hid (∀y∈N1,w.heap.size≤y.1∧y.1≠w.heap.size+1+1):=fun y hy=>⟨(hf y hy).1,fun h=>(hf y hy).2 _ (mT mH) h.symm⟩
    have HGA:Hid (∀y∈N1++[(w.heap.size+1+1,oc (tipA noTipM) 41),(w.heap.size+1,oc (blkA b) 37),(w.heap.size,oc (tipA t) 41)],y.1≠g6):=fun y hy=>(List.mem_append.1 hy).elim (fun h e=>(hf y h).2 _ mH e.symm) (fun h=>HG6.out.2 y h)
    clear kd kv
    clear hf
    refine phF [8] 1 rfl he9 fun hw=>?_
    refine qv (v:= .agg (trA b d)) rfl (fun u hu=>buildA_op u (built_tr HOB.out.len HLD.out)) hw ?_
    refine wpG_nil<|aO 10 (hOp_store rfl (g6) (trA b d) rfl rfl HG6.out.1 112 ((trA noBlkM noBlkM)) (mR mH) (infoTr _ (trA_size HOB.out.len HLD.out)) ((trA_size (b:=noBlkM) (d:=noBlkM) len_no len_no).trans (trA_size HOB.out.len HLD.out).symm) (trA_one _ _) ((g6,oc (trA b d) 112)::(N1++((w.heap.size+1+1,oc (tipA noTipM) 41)::((w.heap.size+1,oc (blkA b) 37)::((w.heap.size,oc (tipA t) 41)::[]))))) (mA ⟨.inl rfl,fun y hy=> .inr ⟨by first|exact mT hy|exact(List.mem_append.1 hy).elim (fun h=>mL h) (fun h=>mR (mT h)),HGA.out y hy⟩⟩) ?_)
    intro he11
    refine eM fun u13 EX12=>?_
    exact KONT d N1 g6 u13 ⟨HKD.out,HKV.out,HG6.out.1,HN1.out,EX12.out⟩
 case k=>
 rintro d N1 g6 uk ⟨kd,kv,hg6,hN1,hEk⟩
 have HKD:=hD kd
 have HKV:=hD kv
 have HHD:Hid (d.h=K):=by obtain⟨v,hv⟩:=HKV.out;exact congrArg BlkR.h hv.1
 have HDL:Hid (d.l=linksK t.r):=by obtain⟨v,hv⟩:=HKV.out;exact congrArg BlkR.l hv.1
 have HLD:Hid (lenH d.h):=by show lenH _;rw[HHD.out];exact HOK.out.len
 have EK:=hD hEk
 clear kd kv hg6 hN1 hEk E1
 obtain⟨ef,hef⟩: ∃ef,FK (decide (b.h.height<48)) (eqPl b.h d.h) (decide (b.l=d.l) && eqL b.h.links d.h.links) (eqRo b.h d.h) (mayH b.h)=ef:=⟨_,rfl⟩
 have HEF:=hD hef
 have HFU:Hid (∀u,EnvX w u ((g6,oc (trA b d) 112)::(N1++((w.heap.size+1+1,oc (tipA noTipM) 41)::((w.heap.size+1,oc (blkA b) 37)::((w.heap.size,oc (tipA t) 41)::[])))))→Calls Tryz.prog 76 #[trV b d] u fun e w'=>e= .returned (.int .i64 (ef:Int))∧Below u.heap.size u w'):=fun u hu=>by
  have h:=HFT.out u d (nl hu) HHD.out HDL.out (HKD.out w u _ hu (fun y MEM=>(mT (mL MEM)))).2
  rw[hef]at h
  exact h
 clear hef HFT
 go_upto_region 2 with (fail)
 refine rgQ [0,1,2] [] EK rfl fun hw=>?_
 refine qv rfl (fun u hu=>load_any_op u (box_tr hu mH HOB.out.len HLD.out) rfl) hw ?_
 refine qc rfl func76 (fun u hu=>HFU.out u hu) hw ?_
 refine qo rfl hw ?_
 refine enP fun u66 EX65=>?_
 cases ef with
 |succ e=>
  have DE:Hid (decide (((e+1:Nat):Int)≠0)=true):=decide_eq_true (by omega)
  go_upto_region 3 with (fail)
  refine rgQ [0,1] [] EX65 rfl fun hw=>?_
  refine qo rfl hw ?_
  refine qv rfl (fun u hu=>neErr_op u DE.out rfl rfl) hw ?_
  refine enP fun u69 EX68=>?_
  have HF:Hid (pushK t.r b.r=(t.r,e+1)):=FK_push (b:=b.r) HKQ.out HHD.out HDL.out HEF.out
  go_upto_region 4 with (fail)
  refine rgQ [0] [1,2,3,4] EX68 rfl fun hw=>?_
  refine ql rfl (mT (mR (mT (mT mH)))) HLT.out hw ?_
  refine wpG_nil<|qr rfl func77 (fun u hu=>HCP.out u (nl hu)) ?_
  rintro x N24 hF hf he71
  obtain⟨t24,rfl,kk,kv⟩:=hF
  have HKK:=hD kk
  have HKV:=hD kv
  have HN24:Hid (∀y∈N24,w.heap.size≤y.1∧y.1≠w.heap.size+1+1):=fun y hy=>⟨(hf y hy).1,fun h=>(hf y hy).2 _ (mT (mR mH)) h.symm⟩
  clear kk kv
  have HLU:Hid (lenH t24.b.h):=by obtain⟨v,hv⟩:=HKV.out;exact hv.2.b.h.len
  clear hf
  refine phE [2] [3,4] he71 fun hw=>?_
  refine qo rfl hw ?_
  refine wpG_nil<|(hOp_store rfl (w.heap.size+1+1) (tipA t24) rfl rfl HLE.out 41 ((tipA noTipM)) (mR (mT (mR mH))) (infoTip _ (tipA_size HLU.out)) (tip_sizes HLU.out) (tipA_one _) ((w.heap.size+1+1,oc (tipA t24) 41)::(N24++[])) (mA ⟨.inl rfl,fun y hy=> .inr ⟨mL (by simpa using hy),(HN24.out y (by simpa using hy)).2⟩⟩) ?_)
  intro he73
  refine phE [4] [] he73 fun hw=>?_
  refine qo rfl hw ?_
  refine enP fun u76 EX75=>?_
  have HTT:Hid (IsTip t.r t24 u76):=HKK.out w u76 _ EX75.out (fun y hy=>mT (by simpa using hy))
  have Q0:=hD (EnvX.box EX75.out _ _ mH)
  have HBEL:=hD EX75.out.bel
  clear EX75
  go_wp2_with ((with_reducible refine bodyPost_ret (v:= .tuple #[.agg (tipA t24), .int .i64 ((e+1:Nat):Int)]) ?_ ?_ ?_);(exact results_row_slot (p:=4) (q:=5) (ty:=41) results36 _ _ (w.heap.size+1+1) 41 (tipA t24) (0,0) _ rfl _ rfl Q0.out underlying41 rfl (infoTip _ (tipA_size HLU.out)));(rfl))
  exact⟨⟨t24,by rw[HF.out]<;>first|rfl|exact⟨rfl,rfl⟩,by rw[HF.out];exact⟨HTT.out,fun h=>absurd h (Nat.succ_ne_zero _)⟩⟩,HBEL.out⟩
 |zero=>
  have DE:Hid (decide (((0:Nat):Int)≠0)=false):=decide_eq_false (by omega)
  go_upto_region 3 with (fail)
  refine rgQ [0,1] [] EX65 rfl fun hw=>?_
  refine qo rfl hw ?_
  refine qv rfl (fun u hu=>neErr_op u DE.out rfl rfl) hw ?_
  refine enP fun u69 EX68=>?_
  have HRE:=hD (FK_zero (t:=t.r) (b:=b.r) HKQ.out HHD.out HDL.out HEF.out)
  have E5:Hid (EnvX w u69 [(w.heap.size+1+1,oc (tipA noTipM) 41),(w.heap.size+1,oc (blkA b) 37),(w.heap.size,oc (tipA t) 41)]):=EnvX.sub EX68.out (fun y hy=>mT (mR (by simpa using hy)))
  clear EX68 HFU
  go_upto_region 5 with (fail)
  refine rgQ [0,1,2,3] [4,5,6,7,8,9] E5 rfl fun hw=>?_
  refine qf rfl hw ?_
  refine ql rfl (mT (mT mH)) HLT.out hw ?_
  refine qf rfl hw ?_
  refine ql rfl (mT mH) HOB.out.len hw ?_
  refine wpG_nil<|(hOp_turn (gd:=none) (R:=fun x M'=> ∃A c N,x= .tuple #[.slice A (q).length c, .int .i64 (er:Int)]∧M'=N++[(w.heap.size+1+1,oc (tipA noTipM) 41),(w.heap.size+1,oc (blkA b) 37),(w.heap.size,oc (tipA t) 41)]∧((q).length≤c∧c≤maxLen)∧CoB (q) A N) rfl rfl rfl rfl (fun u hu=>OUpon_call (fid:=78) (xs:= #[.tmp 28, .tmp 30]) (args:= #[.slice t.A4 t.n4 t.c4, .slice b.A2 b.n2 b.c2]) rfl func78 rfl rfl u (co_turn2 (HAPP.out u (nl hu)) hu)) ?_)
  rintro _ _ ⟨A8,c8,N8,rfl,rfl,hc8,hb8⟩ he71;intro K' hK';go_big_quiet_op;go_big_quiet_on
  have HC8:=hD hc8
  have HB8:=hD hb8
  clear hc8 hb8
  refine phE [5,6,7,8,9] [] he71 fun hw=>?_
  refine qw 5 hw ?_
  refine enP fun u74 EX73=>?_
  cases er with
  | succ e=>
    have DF:Hid (decide (((e+1:Nat):Int)≠0)=true):=decide_eq_true (by omega)
    go_upto_region 6 with (fail)
    refine rgQ [0,1] [] EX73 rfl fun hw=>?_
    refine qo rfl hw ?_
    refine qv rfl (fun u hu=>neErr_op u DF.out rfl rfl) hw ?_
    refine enP fun u77 EX76=>?_
    have E6:Hid (EnvX w u77 [(w.heap.size+1+1,oc (tipA noTipM) 41),(w.heap.size+1,oc (blkA b) 37),(w.heap.size,oc (tipA t) 41)]):=EnvX.sub EX76.out (fun y hy=>mR (by simpa using hy))
    clear EX76
    have HF:Hid (pushK t.r b.r=(t.r,e+1)):=by show _=_;rw[HRE.out,HAP.out,if_pos (Nat.succ_ne_zero e)]
    go_upto_region 7 with (fail)
    refine rgQ [0] [1,2,3,4] E6 rfl fun hw=>?_
    refine ql rfl (mT (mT mH)) HLT.out hw ?_
    refine wpG_nil<|qr rfl func77 (fun u hu=>HCP.out u (nl hu)) ?_
    rintro x N37 hF hf he79
    obtain⟨t37,rfl,kk,kv⟩:=hF
    have HKK:=hD kk
    have HKV:=hD kv
    have HN37:Hid (∀y∈N37,w.heap.size≤y.1∧y.1≠w.heap.size+1+1):=fun y hy=>⟨(hf y hy).1,fun h=>(hf y hy).2 _ mH h.symm⟩
    clear kk kv
    have HLU:Hid (lenH t37.b.h):=by obtain⟨v,hv⟩:=HKV.out;exact hv.2.b.h.len
    clear hf
    refine phE [2] [3,4] he79 fun hw=>?_
    refine qo rfl hw ?_
    refine wpG_nil<|(hOp_store rfl (w.heap.size+1+1) (tipA t37) rfl rfl HLE.out 41 ((tipA noTipM)) (mR mH) (infoTip _ (tipA_size HLU.out)) (tip_sizes HLU.out) (tipA_one _) ((w.heap.size+1+1,oc (tipA t37) 41)::(N37++[])) (mA ⟨.inl rfl,fun y hy=> .inr ⟨mL (by simpa using hy),(HN37.out y (by simpa using hy)).2⟩⟩) ?_)
    intro he81
    refine phE [4] [] he81 fun hw=>?_
    refine qo rfl hw ?_
    refine enP fun u84 EX83=>?_
    have HTT:Hid (IsTip t.r t37 u84):=HKK.out w u84 _ EX83.out (fun y hy=>mT (by simpa using hy))
    have Q0:=hD (EnvX.box EX83.out _ _ mH)
    have HBEL:=hD EX83.out.bel
    clear EX83
    go_wp2_with ((with_reducible refine bodyPost_ret (v:= .tuple #[.agg (tipA t37), .int .i64 ((e+1:Nat):Int)]) ?_ ?_ ?_);(exact results_row_slot (p:=4) (q:=5) (ty:=41) results36 _ _ (w.heap.size+1+1) 41 (tipA t37) (0,0) _ rfl _ rfl Q0.out underlying41 rfl (infoTip _ (tipA_size HLU.out)));(rfl))
    exact⟨⟨t37,by rw[HF.out]<;>first|rfl|exact⟨rfl,rfl⟩,by rw[HF.out];exact⟨HTT.out,fun h=>absurd h (Nat.succ_ne_zero _)⟩⟩,HBEL.out⟩
  | zero=>
    have DF:Hid (decide (((0:Nat):Int)≠0)=false):=decide_eq_false (by omega)
    go_upto_region 6 with (fail)
    refine rgQ [0,1] [] EX73 rfl fun hw=>?_
    refine qo rfl hw ?_
    refine qv rfl (fun u hu=>neErr_op u DF.out rfl rfl) hw ?_
    refine enP fun u77 EX76=>?_
    have HF:Hid (pushK t.r b.r=(⟨b.r,appT t.p (leafH b.h),q⟩,0)):=by show _=_;rw[HRE.out,HAP.out,if_neg (fun h=>h rfl)];rfl
    obtain⟨N9,hb9,hn9⟩:=CoB.apart HB8.out HOQ.out EX76.out (fun y MEM=>(mL MEM)) (mR mH) tip_noint
    have HB9:=hD hb9
    have HN9:=hD hn9
    have E9:Hid (EnvX w u77 (N9++((w.heap.size+1+1,oc (tipA noTipM) 41)::((w.heap.size+1,oc (blkA b) 37)::((w.heap.size,oc (tipA t) 41)::[]))))):=EnvX.sub EX76.out (fun y hy=>by
     rcases List.mem_append.1 hy with h|h
     · exact mL (HN9.out y h).1
     · exact mR h)
    clear EX76 hb9 hn9
    go_upto_region 8 with (fail)
    refine rgK [0,2,3,4,5,7] 5 E9 rfl fun hw=>?_
    refine ql rfl (mR (mT mH)) HOB.out.len hw ?_
    refine qf rfl hw ?_
    refine ql rfl (mR (mT (mT mH))) HLT.out hw ?_
    refine qf rfl hw ?_
    refine qv rfl (fun u hu=>load_any_op u (loads_hd HOB.out.len (box_blk_hd hu (mR (mT mH)) HOB.out.len)).1 rfl) hw ?_
    refine qo rfl hw ?_
    refine wpG_nil<|aO 1 (qr rfl func79 (fun u hu=>HCB.out u (nl hu)) ?_)
    rintro x N1b hF hf he79
    obtain⟨b2,rfl,kk,kv⟩:=hF
    have HKK2:=hD kk
    have HKV2:=hD kv
    have HN1b:Hid (∀y∈N1b,w.heap.size≤y.1∧y.1≠w.heap.size+1+1):=fun y hy=>⟨(hf y hy).1,fun h=>(hf y hy).2 _ (mR mH) h.symm⟩
    clear kk kv
    have HLB2:Hid (lenH b2.h):=by obtain⟨v,hv⟩:=HKV2.out;exact hv.2.h.len
    clear hf
    change anyH _ _ _ _ _ _ _ _ (N1b++(N9++((w.heap.size+1+1,oc (tipA noTipM) 41)::((w.heap.size+1,oc (blkA b) 37)::((w.heap.size,oc (tipA t) 41)::[])))))
    refine aO 6 (qr rfl func80 (fun u hu=>callsR_fresh (HPA.out u (nl hu))) ?_)
    rintro x N6 hF hf he80
    obtain⟨A17,c17,rfl,k1,k2⟩:=FreshR.formR hF
    have HF6:=hD (And.intro hF (And.intro k1 k2))
    have HN6:Hid (∀y∈N6,w.heap.size≤y.1∧y.1≠w.heap.size+1+1):=fun y hy=>⟨(hf y hy).1,fun h=>(hf y hy).2 _ (mR (mR mH)) h.symm⟩
    clear hF k1 k2
    clear hf
    refine phF [8] 2 rfl he80 fun hw=>?_
    refine qv (v:= .agg (tipA ⟨b2,appT t.p (leafH b.h),A17,(appT t.p (leafH b.h)).length,c17,q,A8,q.length,c8⟩)) rfl (fun u hu=>buildA_op u (built_tip (t:=⟨b2,appT t.p (leafH b.h),A17,(appT t.p (leafH b.h)).length,c17,q,A8,q.length,c8⟩) HLB2.out)) hw ?_
    refine wpG_nil<|aO 9 (hOp_store rfl (w.heap.size+1+1) (tipA ⟨b2,appT t.p (leafH b.h),A17,(appT t.p (leafH b.h)).length,c17,q,A8,q.length,c8⟩) rfl rfl HLE.out 41 ((tipA noTipM)) (mR (mR (mR mH))) (infoTip _ (tipA_size (t:=⟨b2,appT t.p (leafH b.h),A17,(appT t.p (leafH b.h)).length,c17,q,A8,q.length,c8⟩) HLB2.out)) (tip_sizes (t:=⟨b2,appT t.p (leafH b.h),A17,(appT t.p (leafH b.h)).length,c17,q,A8,q.length,c8⟩) HLB2.out) (tipA_one _) ((w.heap.size+1+1,oc (tipA ⟨b2,appT t.p (leafH b.h),A17,(appT t.p (leafH b.h)).length,c17,q,A8,q.length,c8⟩) 41)::(N6++(N1b++(N9++[])))) (mA ⟨.inl rfl,fun y hy=> .inr ((List.mem_append.1 hy).elim (fun h=>⟨mL h,(HN6.out y h).2⟩) (fun hy=>(List.mem_append.1 hy).elim (fun h=>⟨mR (mL h),(HN1b.out y h).2⟩) (fun h=>⟨mR (mR (mL (by simpa using h))),(HN9.out y (by simpa using h)).2⟩)))⟩) ?_)
    intro he82
    refine phF [10] 0 rfl he82 fun hw=>?_
    refine qo rfl hw ?_
    refine eH fun u85 EX84=>?_
    have HTT:Hid (IsTip ⟨b.r,appT t.p (leafH b.h),q⟩ ⟨b2,appT t.p (leafH b.h),A17,(appT t.p (leafH b.h)).length,c17,q,A8,q.length,c8⟩ u85):=by
     have hb:=HKK2.out w u85 _ EX84.out (fun y hy=>mT (mR (mL hy)))
     exact⟨by show TipR.mk b2.r _ _=TipR.mk b.r _ _;rw[hb.1],⟨hb.2,rfl,HF6.out.2,HOP.out,fresh_totsB HF6.out.1 rfl HOP.out (fun y hy=>EnvX.box EX84.out _ _ (mT (mL hy))),rfl,HC8.out,HOQ.out,CoB.read HB9.out EX84.out (fun y hy=>mT (mR (mR (by simpa using hy))))⟩⟩
    have HM6:Hid (∀y∈N6,y∈((w.heap.size+1+1,oc (tipA ⟨b2,appT t.p (leafH b.h),A17,(appT t.p (leafH b.h)).length,c17,q,A8,q.length,c8⟩) 41)::(N6++(N1b++(N9++[]))))):=fun y hy=>mT (mL hy)
    have HM1:Hid (∀y∈N1b,y∈((w.heap.size+1+1,oc (tipA ⟨b2,appT t.p (leafH b.h),A17,(appT t.p (leafH b.h)).length,c17,q,A8,q.length,c8⟩) 41)::(N6++(N1b++(N9++[]))))):=fun y hy=>mT (mR (mL hy))
    have HM9:Hid (∀y∈N9,y∈((w.heap.size+1+1,oc (tipA ⟨b2,appT t.p (leafH b.h),A17,(appT t.p (leafH b.h)).length,c17,q,A8,q.length,c8⟩) 41)::(N6++(N1b++(N9++[]))))):=fun y hy=>mT (mR (mR (by simpa using hy)))
    have HSP:Hid (SepT ⟨b.r,appT t.p (leafH b.h),q⟩ ⟨b2,appT t.p (leafH b.h),A17,(appT t.p (leafH b.h)).length,c17,q,A8,q.length,c8⟩ w.heap.size u85):=⟨N1b++N6,N9,fun w0 u M hu hM=>⟨HKK2.out w0 u M hu (fun y hy=>hM y (mL hy)),kept_tots HF6.out.1 rfl HOP.out w0 u M hu (fun y hy=>hM y (mR hy))⟩,HB9.out,fun y hy=>(List.mem_append.1 hy).elim (fun h=>⟨(HN1b.out y h).1,EnvX.box EX84.out _ _ (HM1.out y h)⟩) (fun h=>⟨(HN6.out y h).1,EnvX.box EX84.out _ _ (HM6.out y h)⟩),fun y hy=>EnvX.box EX84.out _ _ (HM9.out y hy)⟩
    have Q0:=hD (EnvX.box EX84.out _ _ mH)
    have HBEL:=hD EX84.out.bel
    clear EX84
    go_wp2_with ((with_reducible refine bodyPost_ret (v:= .tuple #[.agg (tipA ⟨b2,appT t.p (leafH b.h),A17,(appT t.p (leafH b.h)).length,c17,q,A8,q.length,c8⟩), .int .i64 0]) ?_ ?_ ?_);(exact results_row_slot (p:=4) (q:=5) (ty:=41) results36 _ _ (w.heap.size+1+1) 41 (tipA ⟨b2,appT t.p (leafH b.h),A17,(appT t.p (leafH b.h)).length,c17,q,A8,q.length,c8⟩) (0,0) _ rfl _ rfl Q0.out underlying41 rfl (infoTip _ (tipA_size (t:=⟨b2,appT t.p (leafH b.h),A17,(appT t.p (leafH b.h)).length,c17,q,A8,q.length,c8⟩) HLB2.out)));(rfl))
    exact⟨⟨⟨b2,appT t.p (leafH b.h),A17,(appT t.p (leafH b.h)).length,c17,q,A8,q.length,c8⟩,by rw[HF.out]<;>first|rfl|exact⟨rfl,rfl⟩,by rw[HF.out];exact⟨HTT.out,fun _=>HSP.out⟩⟩,HBEL.out⟩
theorem FAt_callV{P:Program}{a:Act}{dst:Option Tmp}{ty:TypeId}{pos:String}{after:Array Edge}{gd:Option (Nat × Bool)}{R:Value→Boxes→Prop}{f:FuncId}{x:Operand}{xs:Array Operand}{ats:Array TypeId}{fn:Func}{c:Code}{args caps all:Array Value}
  (hx:a.eval x= .func (.func f) #[] caps) (hargs:xs.toList.map a.eval=args.toList) (hall:args.toList++caps.toList=all.toList) (hfn:P.funcs[f]?=some fn) (hname:(fn.name== "runtime.NumGoroutine")=false) (hb:fn.body=some c) (u:World)
  (hc:Calls P f all u (fun e w''=> ∃x N,e= .returned x∧R x N∧Below u.heap.size u w''∧ ∀y∈N,u.heap.size≤y.1∧w''.heap[y.1]?=some y.2)):
  FAt P ⟨dst, .call {callee:= .value x,args:=xs,argTypes:=ats},ty,pos,after,gd⟩ a R u:=by
 unfold FAt
 rw[run_callV hx hargs hall hfn hname hb u]
 exact⟨rfl,hc⟩
section
variable {st e:TypeId}{bytes:Nat}{zero:Value}
theorem run_buildS1(T:ElemT st e 1 bytes zero)(x:Value)(hx:x.cells= #[x])(u:World):(Instr.buildSlice st 1 #[(0,x)]).run Tryz.prog u= .ok (.slice (some ⟨u.heap.size,0,none⟩) 1 1) (u.alloc (.cells #[x] e)):=by
 cases hq:Tryz.prog.info? e with
 |none=>have:=T.info;rw[hq]at this;cases this
 | some i=>
  have hi:=T.info
  rw[hq]at hi
  simp only[Option.map_some,Option.some.injEq,Prod.mk.injEq]at hi
  obtain⟨k1,k2,k3⟩:=hi
  have hsm:=T.small
  have hpz:=T.pos
  refine run_buildSlice u st e 1 _ #[x] i zero T.und hq k1 (by omega) (by omega) ?_
  rw[k2]
  have hf:=Great.fill_whole (s:=1) T.pos [x] ((Array.range (1*1)).map (zero.cells[· % zero.cells.size]!)) (by
   intro v hv
   cases mS.1 hv
   rw[hx];rfl) (by simp)
  simpa [hx] using hf
theorem FAt_buildS1(T:ElemT st e 1 bytes zero){x:Value}(hx:x.cells= #[x]){a:Act}{dst:Option Tmp}{p:Operand}{ty:TypeId}{pos:String}{after:Array Edge}{gd:Option (Nat × Bool)}(hp:a.eval p=x)(u:World):
  FAt Tryz.prog ⟨dst, .buildSlice st 1 #[(0,p)],ty,pos,after,gd⟩ a (BuiltR e [x]) u:=by
 unfold FAt execOp
 simp only[List.map_toArray,List.map_cons,List.map_nil,hp,Sem.run_bind,Sem.run_pure,run_buildS1 T x hx u,Result.andThen_ok]
 refine⟨(Below.refl _ _).alloc (Nat.le_refl _) _,_,⟨_,rfl,rfl⟩,fun y hy=>?_⟩
 cases mS.1 hy
 exact⟨Nat.le_refl _,heap_alloc_new u _⟩
variable {z:Nat}
theorem FAt_makeR2(T:ElemT st e z bytes zero){n:Nat}(hn:n≤1000000){a:Act}{dst:Option Tmp}{x:Operand}{ty:TypeId}{pos:String}{after:Array Edge}{gd:Option (Nat × Bool)}(hx:a.eval x= .int .i64 (n:Int))(u:World):
  FAt Tryz.prog ⟨dst, .makeSlice st (.const (.int .i64 0)) x,ty,pos,after,gd⟩ a (fun v N=> ∃g cur,v= .slice (some ⟨g,0,none⟩) 0 n∧N=[(g,oc cur e)]∧cur.size=n*z) u:=by
 cases hq:Tryz.prog.info? e with
 |none=>have:=T.info;rw[hq]at this;cases this
 |some i=>
  have hi:=T.info
  rw[hq]at hi
  simp only[Option.map_some,Option.some.injEq,Prod.mk.injEq]at hi
  obtain⟨k1,k2,k3⟩:=hi
  have hsm:=T.small
  have hmul:bytes*n≤1000*1000000:=Nat.mul_le_mul hsm hn
  have hr:=run_make (P:=Tryz.prog) u st e i zero T.und hq k1 .i64 .i64 0 (n:Int) (by omega) (by omega) (by rw[k3,←Int.natCast_mul];omega) (by omega)
  have ha0:a.eval (.const (.int .i64 0))= .int .i64 0:=rfl
  unfold FAt execOp
  simp only[hx,ha0,Sem.run_bind,Sem.run_pure,hr,Result.andThen_ok]
  refine⟨(Below.refl _ _).alloc (Nat.le_refl _) _,[(u.heap.size,oc (madeCells zero.cells ((n:Int).toNat*i.size)) e)],⟨u.heap.size,madeCells zero.cells ((n:Int).toNat*i.size),rfl,rfl,?_⟩,fun y hy=>?_⟩
  · rw[size_madeCells,k2]
    simp
  · cases mS.1 hy
    exact⟨Nat.le_refl _,heap_alloc_new u _⟩
end
theorem elBlkC:ElemT 22 37 137 232 (.agg (blkA noBlkM)):=⟨underlying22,by kernel_rfl,blkA_size len_no,by decide,by decide,by decide⟩
def CopB(l q:List BlkM)(N:Boxes):Prop:= ∀j,j<q.length→(q.getD j noBlkM).r=(l.getD j noBlkM).r∧KeptA N (fun u=>BlkOk u (q.getD j noBlkM))
theorem getD_snoc{α:Type}(q:List α)(t d:α)(j:Nat)(hj:j<(q++[t]).length):(j<q.length∧(q++[t]).getD j d=q.getD j d)∨(j=q.length∧(q++[t]).getD j d=t):=by
 rw[lA,List.length_singleton]at hj
 rcases Nat.lt_or_ge j q.length with h|h
 · exact .inl ⟨h,by rw[gD,List.getElem?_append_left h,gD]⟩
 · obtain rfl:j=q.length:=by omega
   exact .inr ⟨rfl,by rw[gD,List.getElem?_append_right (Nat.le_refl _),Nat.sub_self];rfl⟩
theorem CopB.step{l q:List BlkM}{N N':Boxes}{t:BlkM}(h:CopB l q N)(hr:t.r=(l.getD q.length noBlkM).r)(hk:KeptA N' (fun u=>BlkOk u t))(hN: ∀y∈N,y∈N'):CopB l (q++[t]) N':=fun j hj=>by
 rcases getD_snoc q t noBlkM j hj with ⟨h1,h2⟩|⟨h1,h2⟩
 · rw[h2]
   exact⟨(h j h1).1,(h j h1).2.mono hN⟩
 · rw[h2,h1]
   exact⟨hr,hk⟩
theorem CopB.done{l q:List BlkM}{N:Boxes}(h:CopB l q N)(hl:q.length=l.length):rsB q=rsB l∧ ∀t∈q,KeptA N (fun u=>BlkOk u t):=by
 refine⟨?_,fun t ht=>?_⟩
 · unfold rsB
   refine List.ext_getElem (by rw[lM,lM,hl]) fun j h1 h2=>?_
   rw[lM]at h1 h2
   have e:=(h j h1).1
   rw[gD,gD,gE h1,gE h2]at e
   rw[List.getElem_map,List.getElem_map]
   exact e
 · obtain⟨j,hj,rfl⟩:=List.getElem_of_mem ht
   have e:=(h j hj).2
   rw[gD,gE hj]at e
   exact e
def CopT(l q:List TxM)(N:Boxes):Prop:= ∀j,j<q.length→(q.getD j noTxM).r=(l.getD j noTxM).r∧KeptA N (fun u=>TxOk u (q.getD j noTxM))
theorem CopT.step{l q:List TxM}{N N':Boxes}{t:TxM}(h:CopT l q N)(hr:t.r=(l.getD q.length noTxM).r)(hk:KeptA N' (fun u=>TxOk u t))(hN: ∀y∈N,y∈N'):CopT l (q++[t]) N':=fun j hj=>by
 rcases getD_snoc q t noTxM j hj with ⟨h1,h2⟩|⟨h1,h2⟩
 · rw[h2]
   exact⟨(h j h1).1,(h j h1).2.mono hN⟩
 · rw[h2,h1]
   exact⟨hr,hk⟩
theorem CopT.done{l q:List TxM}{N:Boxes}(h:CopT l q N)(hl:q.length=l.length):rsT q=rsT l∧ ∀t∈q,KeptA N (fun u=>TxOk u t):=by
 refine⟨?_,fun t ht=>?_⟩
 · unfold rsT
   refine List.ext_getElem (by rw[lM,lM,hl]) fun j h1 h2=>?_
   rw[lM]at h1 h2
   have e:=(h j h1).1
   rw[gD,gD,gE h1,gE h2]at e
   rw[List.getElem_map,List.getElem_map]
   exact e
 · obtain⟨j,hj,rfl⟩:=List.getElem_of_mem ht
   have e:=(h j hj).2
   rw[gD,gE hj]at e
   exact e
def RTx(r:TxR)(x:Value)(N:Boxes):Prop:= ∃t,x=txV t∧t.r=r∧KeptA N (fun u=>TxOk u t)
def RBlks(r:List BlkR)(n:Nat)(x:Value)(N0:Boxes):Prop:= ∃q Nx N,N0=Nx++N∧q.length=n∧rsB q=r∧FreshR 37 137 n (q.map blkC).flatten x Nx∧(∀y∈N,∀z∈Nx,y.1≠z.1)∧ ∀t∈q,KeptA N (fun u=>BlkOk u t)
theorem hands_turn{f:FuncId}{args:Array Value}{u w0:World}{M:Boxes}{R:Value→Boxes→Prop}(h:Hands f args u R)(hu:EnvX w0 u M):
   Calls Tryz.prog f args u fun e w'=> ∃x M',e= .returned x∧EnvX w0 w' M'∧ ∃N,R x N∧M'=N++M∧ ∀y∈N,w0.heap.size≤y.1∧ ∀z∈M,z.1≠y.1:=by
 unfold Hands at h
 refine h.mono fun e w'⟨x,N,he,hR,hb,hN⟩=>?_
 have hE:=EnvX.below hu hb
 refine⟨x,N++M,he,⟨hE.bel,fun g o hm=>?_⟩,N,hR,rfl,fun y hy=>⟨Nat.le_trans (EnvX.bel hu).size (hN y hy).1,fun z hz e=>?_⟩⟩
 · rcases List.mem_append.1 hm with h|h
   · exact(hN (g,o) h).2
   · exact hE.box g o h
 · have h1:=hu.lt (g:=z.1) (o:=z.2) hz
   have h2:=(hN y hy).1
   omega
theorem tip_noint2(t:TipM): ∀(k:Nat)(i:Int),32≤k→(tipA t)[k]?≠some (.int .i64 i):=by
 intro k i hk e
 obtain⟨k,rfl⟩: ∃j,k=j+1:=⟨k- 1,by omega⟩
 have e':(tipC t)[k+1]?=some (.int .i64 i):=by unfold tipA at e;rwa[List.getElem?_toArray]at e
 unfold tipC blkC hdC at e'
 simp only[aA,List.singleton_append,List.cons_append,List.nil_append,List.getElem?_cons_succ]at e'
 have hm:=List.mem_of_getElem? e'
 have ha: ∀l:List Int,Value.int .i64 i∉ (arrB 32 l).toList:=fun l h=>by
  unfold arrB u8v at h
  simp at h
 have hw: ∀n:Nat,Value.int .i64 i∉ (wcs n).toList:=fun n h=>by
  unfold wcs arrW u64v at h
  simp at h
 simp only[List.mem_append,List.mem_cons,List.not_mem_nil,or_false]at hm
 rcases hm with h|h|h|h|h|h|h|h|h|h|h<;>first|exact ha _ h|exact hw _ h|cases h
theorem rsB_get{l:List BlkM}{i:Nat}(h:i<l.length):(rsB l).getD i noBlk=(l.getD i noBlkM).r:=rsB_at h
theorem rsB_ext{l q:List BlkM}(hl:l.length=q.length)(h: ∀j,j<l.length→(l.getD j noBlkM).r=(q.getD j noBlkM).r):rsB l=rsB q:=by
 unfold rsB
 refine List.ext_getElem (by rw[lM,lM,hl]) fun j h1 h2=>?_
 rw[lM]at h1 h2
 have:=h j h1
 rw[gD,gD,gE h1,gE h2]at this
 rw[List.getElem_map,List.getElem_map]
 exact this
theorem findB_hit{l:List BlkM}{id:List Int}{k:Nat}(hk:k<l.length)(h:decide (idH (l.getD k noBlkM).h=id)=true)(hn: ∀j,j<k→decide (idH (l.getD j noBlkM).h=id)=false):findB (rsB l) id=(k:Int):=by
 refine find_at _ id k (by rw[rsB_len];exact hk) (fun j hj=>?_) ?_
 · rw[rsB_at (show j<l.length by omega)]
   exact of_decide_eq_false (hn j hj)
 · rw[rsB_at hk]
   exact of_decide_eq_true h
theorem findB_none{l:List BlkM}{id:List Int}(hn: ∀j,j<l.length→decide (idH (l.getD j noBlkM).h=id)=false):findB (rsB l) id= -1:=by
 refine find_none _ id (fun j hj=>?_)
 rw[rsB_len]at hj
 rw[rsB_at hj]
 exact of_decide_eq_false (hn j hj)
theorem vcFind1(y:BlkM)(id:List Int)(gx:Nat)(w:World)(hy:BlkOk w y)(hid:isId id)(ht:Tables w)(hg:w.heap[gx]?=some (.cells (arrB 32 id) 26 (0,0))):
  Rz 61 #[blkV y, .pointer (some ⟨gx,0,none⟩)] w (.bool (decide (idH y.h=id))):=by
 unfold Rz
 have HX:=hD hid
 have HOB:Hid (okHd y.h):=hy.h
 have HIY:Hid ((idH y.h).length=32):=(idH_id y.h).1
 have HID:Hid (Rt w 32 #[hdV y.h] (idv (idH y.h))):=fun u hu=>hid_any y.h u hy.h (ht.below (EnvX.bel hu))
 have E0:EnvX w w [(gx,oc (arrB 32 id) 26)]:=⟨Below.refl _ _,fun g o hm=>by cases mS.1 hm;exact hg⟩
 have E1:Hid (EnvX w (w.alloc (.cells (blkA y) 37)) [(w.heap.size,oc (blkA y) 37),(gx,oc (arrB 32 id) 26)]):=E0.new _
 obtain⟨b,hb⟩: ∃b,decide (idH y.h=id)=b:=⟨_,rfl⟩
 have HEQ:Hid (eqL (idH y.h) id=b):=hb
 have HF:=hD hb
 clear hy hid ht hg E0 hb
 generalize idH y.h=iy at *
 unfold blkV
 go_enter func61,ntmps61
 go_upto_region 1 with (fail)
 generalize w.alloc (.cells (blkA y) 37)=W at *
 refine rgK [0,1,2,3,4,5] 0 E1 rfl fun hw=>?_
 refine qf rfl hw ?_
 refine qv rfl (fun u hu=>load_any_op u (loads_hd HOB.out.len (box_blk_hd hu mH HOB.out.len)).1 rfl) hw ?_
 refine qc rfl func32 (fun u hu=>HID.out u (nl hu)) hw ?_
 refine qv rfl (fun u hu=>load_run_op u (box_load hu (mT mH) HX.out.1) rfl) hw ?_
 refine qv rfl (fun u hu=>eqlb_op HIY.out HX.out.1 HEQ.out u rfl rfl) hw ?_
 refine qo rfl hw ?_
 refine eH fun u3 EX2=>?_
 have HBE:=hD (EnvX.bel EX2.out)
 go_wp2
 go_ret
 exact⟨by rw[HF.out];first|done|rfl,HBE.out⟩
theorem vcIndex(l:List BlkM)(A:Option Addr)(n c:Nat)(id:List Int)(gx:Nat)(w:World)(hl:l.length=n)(hn:n≤100000)(hA:BlksIn w A l)
  (hf: ∀u,Below w.heap.size w u→ ∀y,BlkOk w y→Calls Tryz.prog 61 #[blkV y, .pointer (some ⟨gx,0,none⟩)] u fun e w'=>e= .returned (.bool (decide (idH y.h=id)))∧Below u.heap.size u w'):
  Calls Tryz.prog 60 #[.slice A n c, .func (.func 61) #[] #[.pointer (some ⟨gx,0,none⟩)]] w fun e w'=>e= .returned (.int .i64 (findB (rsB l) id))∧Below w.heap.size w w':=by
 have HL:=hD hl
 have HN63:Hid (n<9223372036854775808):=by show _<_;omega
 have HAA:=hD hA
 have HFN:=hD hf
 have E1:Hid (EnvX w w []):=EnvX.start w
 clear hl hn hA hf
 go_enter func60,ntmps60
 go_upto_region 1 with (fail)
 refine rgQ [0,1,2] [] E1 rfl fun hw=>?_
 refine qo rfl hw ?_
 refine qv rfl (fun u hu=>len_op underlying22 HN63.out u rfl) hw ?_
 refine qo rfl hw ?_
 refine enP fun u3 EX2=>?_
 go_upto_region 2 with (fail)
 go_loopw [8] (fun iv u=> ∃i:Nat,i≤n∧iv= .int .i64 (i:Int)∧Hid ((∀j,j<i→decide (idH (l.getD j noBlkM).h=id)=false)∧EnvX w u [])) (fun iv _=>n- (intOf iv).toNat)
 case atStart=>exact⟨0,by omega,rfl,(fun j hj=>by omega),EX2.out⟩
 case round=>
  obtain⟨i,hi,rfl,hinv⟩:=hrel
  have H1:=hD hinv.out.1
  have EK:=hD hinv.out.2
  clear hinv EX2 E1
  by_cases hlt:i<n
  · have C2:Hid (decide ((i:Int)<(n:Int))=true):=decide_eq_true (by omega)
    have HI:=hD hlt
    have hil:i<l.length:=by rw[HL.out];exact hlt
    have HIL:=hD hil
    obtain⟨ad,rfl,-,hld⟩:=HAA.out.loads hil
    have HLD:Hid (∀u,EnvX w u []→(loadVar 37 (ad.add (i*137))).run Tryz.prog u= .ok (blkV (l.getD i noBlkM)) u):=fun u hu=>(hld u hu).1
    have HTX:=hD (HAA.out.get hil)
    obtain⟨y,hy⟩: ∃y,l.getD i noBlkM=y:=⟨_,rfl⟩
    rw[hy]at HLD HTX
    have HYE:=hD hy
    obtain⟨b,hb⟩: ∃b,decide (idH y.h=id)=b:=⟨_,rfl⟩
    have HBV:=hD hb
    have HBF:Hid (Rb w 61 #[blkV y, .pointer (some ⟨gx,0,none⟩)] (.bool b)):=fun u hu=>by
     have h:=HFN.out u hu y HTX.out
     rwa[hb]at h
    clear hld hil hlt hy hb
    go_upto_region 2 with (fail)
    refine rgQ [0] [] EK rfl fun hw=>?_
    refine qv rfl (fun u hu=>ltZ_op u C2.out rfl rfl) hw ?_
    refine enP fun u33 EX32=>?_
    go_upto_region 3 with (fail)
    refine rgQ [0,1] [] EX32 rfl fun hw=>?_
    refine qw 2 hw ?_
    refine enP fun u36 EX35=>?_
    cases b with
    |true=>
     have HF:Hid (findB (rsB l) id=(i:Int)):=findB_hit HIL.out (by rw[HYE.out];exact HBV.out) H1.out
     go_upto_region 4 with (fail)
     refine rgP [0,1,2,3,4,5] [] EX35 rfl ?_;intro hw37 hone
     iterate 3 refine qo rfl ⟨_,hw37⟩ ?_
     refine qv rfl (fun u hu=>idxSl_op underlying22 aggBlk.size HI.out u rfl rfl) ⟨_,hw37⟩ ?_
     refine qv rfl (fun u hu=>load_any_op u (HLD.out u (nl hu)) rfl) ⟨_,hw37⟩ ?_
     (refine wpG_callV (f:=61) (args:= #[blkV y]) (caps:= #[.pointer (some ⟨gx,0,none⟩)]) (all:= #[blkV y, .pointer (some ⟨gx,0,none⟩)]) (v:= .bool true) rfl rfl rfl rfl rfl func61 rfl rfl (fun u hu=>HBF.out u (EnvX.bel hu)) ?_ hw37;intro K hK;go_big_quiet_op;go_big_quiet_on)
     clear hone hw37;refine enP fun u39 EX38=>?_
     go_upto_region 5 with (fail)
     refine rgQ [0,1] [] EX38 rfl fun hw=>?_
     refine qw 2 hw ?_
     refine enP fun u42 EX41=>?_
     have HBE:=hD (EnvX.bel EX41.out)
     go_wp2
     go_ret
     exact⟨by rw[HF.out];first|done|rfl,HBE.out⟩
    | false=>
     have H3:Hid (∀j,j<i+1→decide (idH (l.getD j noBlkM).h=id)=false):=fun j hj=>by
      rcases Nat.lt_or_ge j i with h|h
      · exact H1.out j h
      · rw[show j=i by omega,HYE.out];exact HBV.out
     go_upto_region 4 with (fail)
     refine rgP [0,1,2,3,4,5] [] EX35 rfl ?_;intro hw37 hone
     iterate 3 refine qo rfl ⟨_,hw37⟩ ?_
     refine qv rfl (fun u hu=>idxSl_op underlying22 aggBlk.size HI.out u rfl rfl) ⟨_,hw37⟩ ?_
     refine qv rfl (fun u hu=>load_any_op u (HLD.out u (nl hu)) rfl) ⟨_,hw37⟩ ?_
     (refine wpG_callV (f:=61) (args:= #[blkV y]) (caps:= #[.pointer (some ⟨gx,0,none⟩)]) (all:= #[blkV y, .pointer (some ⟨gx,0,none⟩)]) (v:= .bool false) rfl rfl rfl rfl rfl func61 rfl rfl (fun u hu=>HBF.out u (EnvX.bel hu)) ?_ hw37;intro K hK;go_big_quiet_op;go_big_quiet_on)
     clear hone hw37;refine enP fun u39 EX38=>?_
     have hii:=HI.out
     have hn:=HN63.out
     go_wp2
     go_roundw
     case rel=>exact⟨i+1,by omega,by go_num,H3.out,EX38.out⟩
     case measure=>simp[intOf];omega
  · obtain rfl:i=n:=by omega
    have C2:Hid (decide ((i:Int)<(i:Int))=false):=decide_eq_false (by omega)
    have HF:Hid (findB (rsB l) id= -1):=findB_none (by rw[HL.out];exact H1.out)
    go_upto_region 2 with (fail)
    refine rgQ [0] [] EK rfl fun hw=>?_
    refine qv rfl (fun u hu=>ltZ_op u C2.out rfl rfl) hw ?_
    refine enP fun u203 EX202=>?_
    go_upto_region 7 with (fail)
    refine rgQ [0] [] EX202 rfl fun hw=>?_
    refine qo rfl hw ?_
    refine enP fun u206 EX205=>?_
    have HBE:=hD (EnvX.bel EX205.out)
    go_wp2
    go_ret
    exact⟨by rw[HF.out];first|done|rfl,HBE.out⟩
theorem vcfind(m:RowM)(id:List Int)(w:World)(hm:RowOk w m)(hn:m.l.length≤100000)(hid:isId id)(ht:Tables w):
  Rz 28 #[rowV m,idv id] w (.int .i64 (findB m.r id)):=by
 unfold Rz
 have HIX:Hid (∀u,EnvX w u [(w.heap.size,oc (arrB 32 id) 26)]→Calls Tryz.prog 60 #[.slice m.A m.n m.c, .func (.func 61) #[] #[.pointer (some ⟨w.heap.size,0,none⟩)]] u fun e w'=>e= .returned (.int .i64 (findB m.r id))∧Below u.heap.size u w'):=fun u hu=>
  vcIndex m.l m.A m.n m.c id w.heap.size u hm.l (by rw[←hm.l];exact hn) (hm.m.up hu.bel) (fun v hv y hy=>vcFind1 y id _ v (hy.up hv) hid ((ht.below hu.bel).below hv) ((hv.block _ (hu.lt mH)).trans (hu.box _ _ mH)))
 have E1:Hid (EnvX w (w.alloc (.cells (arrB 32 id) 26)) [(w.heap.size,oc (arrB 32 id) 26)]):=(EnvX.start w).new _
 clear hm hn hid ht
 generalize findB m.r id=k at *
 unfold rowV idv
 go_enter func28,ntmps28
 go_upto_region 1 with (fail)
 generalize w.alloc (.cells (arrB 32 id) 26)=W at *
 refine rgQ [0,1,2,3] [] E1 rfl fun hw=>?_
 refine qo rfl hw ?_
 refine qv (v:= .func (.func 61) #[] #[.pointer (some ⟨w.heap.size,0,none⟩)]) rfl (fun u hu=>mkfun1_op u rfl) hw ?_
 refine qc rfl func60 (fun u hu=>HIX.out u hu) hw ?_
 refine qo rfl hw ?_
 refine enP fun u3 EX2=>?_
 have HBE:=hD (EnvX.bel EX2.out)
 go_wp2
 go_ret
 exact⟨rfl,HBE.out⟩
theorem vcEqual(l q:List BlkM)(A A':Option Addr)(n c m c':Nat)(w:World)(hl:l.length=n)(hn:n≤100000)(hA:BlksIn w A l)(ml: ∀x∈l,midBlk x)(hl':q.length=m)(hm:m≤100000)(hA':BlksIn w A' q)(mq: ∀x∈q,midBlk x):
  Rz 53 #[.slice A n c, .slice A' m c', .func (.func 39) #[] #[]] w (.bool (decide (rsB l=rsB q))):=by
 unfold Rz
 have HL:=hD hl
 have HL':=hD hl'
 have HAA:=hD hA
 have HAA':=hD hA'
 have HML:=hD ml
 have HMQ:=hD mq
 have HN63:Hid (n<9223372036854775808):=by show _<_;omega
 have HM63:Hid (m<9223372036854775808):=by show _<_;omega
 have E1:Hid (EnvX w w []):=EnvX.start w
 clear hl hn hA hl' hm hA' ml mq
 by_cases d4:n=m
 case neg=>
  have D4:Hid (decide ((n:Int)≠(m:Int))=true):=decide_eq_true (by omega)
  have HF:Hid (decide (rsB l=rsB q)=false):=decide_eq_false fun e=>d4 (by have h:=congrArg List.length e;rw[rsB_len,rsB_len,HL.out,HL'.out]at h;exact h)
  clear d4
  go_enter func53,ntmps53
  go_upto_region 1 with (fail)
  refine rgQ [0,1,2,3,4] [] E1 rfl fun hw=>?_
  refine qo rfl hw ?_
  refine qv rfl (fun u hu=>len_op underlying22 HN63.out u rfl) hw ?_
  refine qo rfl hw ?_
  refine qv rfl (fun u hu=>len_op underlying22 HM63.out u rfl) hw ?_
  refine qv rfl (fun u hu=>neZ_op u D4.out rfl rfl) hw ?_
  refine enP fun u3 EX2=>?_
  go_upto_region 2 with (fail)
  refine rgQ [0] [] EX2 rfl fun hw=>?_
  refine qo rfl hw ?_
  refine enP fun u6 EX5=>?_
  have HBE:=hD (EnvX.bel EX5.out)
  go_wp2
  go_ret
  exact⟨by rw[HF.out];first|done|rfl,HBE.out⟩
 have D4:Hid (decide ((n:Int)≠(n:Int))=false):=decide_eq_false (by omega)
 subst d4
 go_enter func53,ntmps53
 go_upto_region 1 with (fail)
 refine rgQ [0,1,2,3,4] [] E1 rfl fun hw=>?_
 refine qo rfl hw ?_
 refine qv rfl (fun u hu=>len_op underlying22 HN63.out u rfl) hw ?_
 refine qo rfl hw ?_
 refine qv rfl (fun u hu=>len_op underlying22 HM63.out u rfl) hw ?_
 refine qv rfl (fun u hu=>neZ_op u D4.out rfl rfl) hw ?_
 refine enP fun u3 EX2=>?_
 go_upto_region 3 with (fail)
 refine rgQ [0,1,2] [] EX2 rfl fun hw=>?_
 refine qo rfl hw ?_
 refine qv rfl (fun u hu=>len_op underlying22 HN63.out u rfl) hw ?_
 refine qo rfl hw ?_
 refine enP fun u6 EX5=>?_
 have EJ:=hD EX5.out
 clear EX5 E1
 go_upto_region 4 with (fail)
 go_loopw [17] (fun iv u=> ∃i:Nat,i≤n∧iv= .int .i64 (i:Int)∧Hid ((∀j,j<i→(l.getD j noBlkM).r=(q.getD j noBlkM).r)∧EnvX w u [])) (fun iv _=>n- (intOf iv).toNat)
 case atStart=>exact⟨0,by omega,rfl,(fun j hj=>by omega),EJ.out⟩
 case round=>
  obtain⟨i,hi,rfl,hinv⟩:=hrel
  have H1:=hD hinv.out.1
  have EK:=hD hinv.out.2
  clear hinv EJ
  by_cases hlt:i<n
  · have C2:Hid (decide ((i:Int)<(n:Int))=true):=decide_eq_true (by omega)
    have HI:=hD hlt
    have hil:i<l.length:=by rw[HL.out];exact hlt
    have hil':i<q.length:=by rw[HL'.out];exact hlt
    obtain⟨ad,rfl,-,hld⟩:=HAA.out.loads hil
    obtain⟨ad',rfl,-,hld'⟩:=HAA'.out.loads hil'
    have HLD:=hD (And.intro hld hld')
    have HTX:Hid (BlkOk w (l.getD i noBlkM)∧BlkOk w (q.getD i noBlkM)):=⟨HAA.out.get hil,HAA'.out.get hil'⟩
    have HMX:Hid (midBlk (l.getD i noBlkM)∧midBlk (q.getD i noBlkM)):=⟨HML.out _ (by rw[gD,gE hil];exact List.getElem_mem hil),HMQ.out _ (by rw[gD,gE hil'];exact List.getElem_mem hil')⟩
    obtain⟨x,hx⟩: ∃x,l.getD i noBlkM=x:=⟨_,rfl⟩
    obtain⟨y,hy⟩: ∃y,q.getD i noBlkM=y:=⟨_,rfl⟩
    have HXY:=hD (And.intro hx hy)
    rw[hx,hy]at HLD HTX HMX
    have HKx:Hid (lenH x.h):=HTX.out.1.h.len
    have HKy:Hid (lenH y.h):=HTX.out.2.h.len
    obtain⟨b,hb⟩: ∃b,decide (x.r=y.r)=b:=⟨_,rfl⟩
    have HEQ:=hD hb
    have HXB:Hid (Rt w 39 #[blkV x,blkV y] (.bool b)):=fun u hu=>by have h:=vbsame_any x y u (HTX.out.1.up (EnvX.bel hu)) HMX.out.1 (HTX.out.2.up (EnvX.bel hu)) HMX.out.2;rwa[hb]at h
    clear hld hld' hil hil' hlt hx hy hb
    go_upto_region 4 with (fail)
    refine rgQ [0] [] EK rfl fun hw=>?_
    refine qv rfl (fun u hu=>ltZ_op u C2.out rfl rfl) hw ?_
    refine enP fun u23 EX22=>?_
    go_upto_region 5 with (fail)
    refine rgQ [0,1,2] [3,4,5] EX22 rfl fun hw=>?_
    refine qo rfl hw ?_
    refine qv rfl (fun u hu=>idxSl_op underlying22 aggBlk.size HI.out u rfl rfl) hw ?_
    refine qv rfl (fun u hu=>load_any_op u (HLD.out.1 u (nl hu)).1 rfl) hw ?_
    refine wpG_nil<|qn rfl (new_blk _) fun g8 HGg8 he25=>?_
    refine phE [4] [5] he25 fun hw=>?_
    refine qo rfl hw ?_
    refine wpG_nil<|(sh rfl HGg8 (infoBlk _ (blkA_size HKx.out)) (blk_sizes HKx.out) (blkA_one _) ?_)
    refine fun _=>enL fun u29 EX28=>?_
    go_upto_region 6 with (fail)
    refine rgQ [0,1,2,3] [4,5] EX28 rfl fun hw=>?_
    refine qw 2 hw ?_
    refine qv rfl (fun u hu=>idxSl_op underlying22 aggBlk.size HI.out u rfl rfl) hw ?_
    refine qv rfl (fun u hu=>load_any_op u (HLD.out.2 u (nl hu)).1 rfl) hw ?_
    refine wpG_nil<|qn rfl (new_blk _) fun g9 HGg9 he31=>?_
    change lexH _ _ _ _ _ _ [(g9,oc (blkA noBlkM) 37),(g8,oc (blkA x) 37)]
    refine(sh rfl HGg9 (infoBlk _ (blkA_size HKy.out)) (blk_sizes HKy.out) (blkA_one _) ?_)
    refine fun _=>enL fun u34 EX33=>?_
    cases b with
    | false=>
     have HF:Hid (decide (rsB l=rsB q)=false):=decide_eq_false fun e=>by
      have h:(rsB l).getD i noBlk=(rsB q).getD i noBlk:=congrArg (fun z:List BlkR=>z.getD i noBlk) e
      have e1:=rsB_get (l:=l) (i:=i) (by rw[HL.out];exact HI.out)
      have e2:=rsB_get (l:=q) (i:=i) (by rw[HL'.out];exact HI.out)
      rw[e1,e2,HXY.out.1,HXY.out.2]at h
      exact of_decide_eq_false HEQ.out h
     go_upto_region 7 with (fail)
     refine rgP [0,1,2,3,4] [] EX33 rfl ?_;intro hw35 hone
     refine qo rfl ⟨_,hw35⟩ ?_
     refine ql rfl (mT mH) HKx.out ⟨_,hw35⟩ ?_
     refine ql rfl mH HKy.out ⟨_,hw35⟩ ?_
     (refine wpG_callV (f:=39) (args:= #[blkV x,blkV y]) (caps:= #[]) (all:= #[blkV x,blkV y]) (v:= .bool false) rfl rfl rfl rfl rfl func39 rfl rfl (fun u hu=>HXB.out u (nl hu)) ?_ hw35;intro K hK;go_big_quiet_op;go_big_quiet_on)
     refine qo rfl ⟨_,hw35⟩ ?_
     clear hone hw35;refine enP fun u37 EX36=>?_
     go_upto_region 8 with (fail)
     refine rgQ [0] [] EX36 rfl fun hw=>?_
     refine qo rfl hw ?_
     refine enP fun u40 EX39=>?_
     have HBE:=hD (EnvX.bel EX39.out)
     go_wp2
     go_ret
     exact⟨by rw[HF.out];first|done|rfl,HBE.out⟩
    | true=>
     have H3:Hid (∀j,j<i+1→(l.getD j noBlkM).r=(q.getD j noBlkM).r):=fun j hj=>by
      rcases Nat.lt_or_ge j i with h|h
      · exact H1.out j h
      · rw[show j=i by omega,HXY.out.1,HXY.out.2];exact of_decide_eq_true HEQ.out
     go_upto_region 7 with (fail)
     refine rgP [0,1,2,3,4] [] EX33 rfl ?_;intro hw35 hone
     refine qo rfl ⟨_,hw35⟩ ?_
     refine ql rfl (mT mH) HKx.out ⟨_,hw35⟩ ?_
     refine ql rfl mH HKy.out ⟨_,hw35⟩ ?_
     (refine wpG_callV (f:=39) (args:= #[blkV x,blkV y]) (caps:= #[]) (all:= #[blkV x,blkV y]) (v:= .bool true) rfl rfl rfl rfl rfl func39 rfl rfl (fun u hu=>HXB.out u (nl hu)) ?_ hw35;intro K hK;go_big_quiet_op;go_big_quiet_on)
     refine qo rfl ⟨_,hw35⟩ ?_
     clear hone hw35;refine enP fun u37 EX36=>?_
     have hii:=HI.out
     have hn:=HN63.out
     go_wp2
     go_roundw
     case rel=>exact⟨i+1,by omega,by go_num,H3.out,EX36.out.sub (fun _ h=>by cases h)⟩
     case measure=>simp[intOf];omega
  · obtain rfl:i=n:=by omega
    have C2:Hid (decide ((i:Int)<(i:Int))=false):=decide_eq_false (by omega)
    have HF:Hid (decide (rsB l=rsB q)=true):=decide_eq_true (rsB_ext (by rw[HL.out,HL'.out]) (by rw[HL.out];exact H1.out))
    go_upto_region 4 with (fail)
    refine rgQ [0] [] EK rfl fun hw=>?_
    refine qv rfl (fun u hu=>ltZ_op u C2.out rfl rfl) hw ?_
    refine enP fun u203 EX202=>?_
    go_upto_region 10 with (fail)
    refine rgQ [0] [] EX202 rfl fun hw=>?_
    refine qo rfl hw ?_
    refine enP fun u206 EX205=>?_
    have HBE:=hD (EnvX.bel EX205.out)
    go_wp2
    go_ret
    exact⟨by rw[HF.out];first|done|rfl,HBE.out⟩
theorem midRowR.mem{m:RowM}(h:midRowR m.r): ∀x∈m.l,midBlk x:=fun x hx=>(midBlk_iff x).2 (h.2 _ (List.mem_map.2 ⟨x,hx,rfl⟩))
theorem midRowR.len{m:RowM}(h:midRowR m.r):m.l.length≤100000:=by have h1:=h.1;rwa[m.r_len]at h1
theorem vcsame(m q:RowM)(w:World)(hm:RowOk w m)(mm:midRowR m.r)(hq:RowOk w q)(mq:midRowR q.r):
  Rz 24 #[rowV m,rowV q] w (.bool (decide (m.r=q.r))):=by
 unfold Rz
 have HEQ:Hid (Rt w 53 #[.slice m.A m.n m.c, .slice q.A q.n q.c, .func (.func 39) #[] #[]] (.bool (decide (m.r=q.r)))):=fun u hu=>
  vcEqual m.l q.l m.A q.A m.n m.c q.n q.c u hm.l (by rw[←hm.l];exact mm.len) (hm.m.up (EnvX.bel hu)) mm.mem hq.l (by rw[←hq.l];exact mq.len) (hq.m.up (EnvX.bel hu)) mq.mem
 have E1:Hid (EnvX w w []):=EnvX.start w
 clear hm mm hq mq
 generalize decide (m.r=q.r)=b at *
 unfold rowV
 go_enter func24,ntmps24
 go_upto_region 1 with (fail)
 refine rgQ [0,1,2,3] [] E1 rfl fun hw=>?_
 refine qw 2 hw ?_
 refine qc rfl func53 (fun u hu=>HEQ.out u (nl hu)) hw ?_
 refine qo rfl hw ?_
 refine enP fun u3 EX2=>?_
 have HBE:=hD (EnvX.bel EX2.out)
 go_wp2
 go_ret
 exact⟨rfl,HBE.out⟩
theorem elIntC:ElemT 52 3 1 8 (.int .i64 0):=⟨underlying52,by kernel_rfl,by rfl,by decide,by decide,by decide⟩
theorem vclevelOf(b:BlkM)(w:World)(kb:BlkOk w b)(ht:Tables w):
  Rz 51 #[blkV b] w (.int .i64 (levelH b.h)):=by
 unfold Rz
 have HOB:Hid (okHd b.h):=kb.h
 have HLV:Hid (Rt w 35 #[hdV b.h] (.int .i64 (levelH b.h))):=fun u hu=>hlevel_any b.h u kb.h (ht.below (EnvX.bel hu))
 have E1:Hid (EnvX w (w.alloc (.cells (blkA b) 37)) [(w.heap.size,oc (blkA b) 37)]):=(EnvX.start w).new _
 clear kb ht
 generalize levelH b.h=lv at *
 unfold blkV
 go_enter func51,ntmps51
 go_upto_region 1 with (fail)
 generalize w.alloc (.cells (blkA b) 37)=W at *
 refine rgQ [0,1,2,3] [] E1 rfl fun hw=>?_
 refine qf rfl hw ?_
 refine qv rfl (fun u hu=>load_any_op u (loads_hd HOB.out.len (box_blk_hd hu mH HOB.out.len)).1 rfl) hw ?_
 refine qc rfl func35 (fun u hu=>HLV.out u (nl hu)) hw ?_
 refine qo rfl hw ?_
 refine enP fun u3 EX2=>?_
 have HBE:=hD (EnvX.bel EX2.out)
 go_wp2
 go_ret
 exact⟨rfl,HBE.out⟩
theorem vcleafOf(b:BlkM)(w:World)(kb:BlkOk w b)(ht:Tables w):
  Rz 56 #[blkV b] w (totV (leafH b.h)):=by
 unfold Rz
 have HOB:Hid (okHd b.h):=kb.h
 have hh:=kb.h
 have HO:Hid (len32 (leafH b.h)):=(idH_id b.h).1
 have HLE:Hid (w.heap.size≤w.heap.size+1):=by show _≤_;omega
 have HID:Hid (Rt w 32 #[hdV b.h] (idv (idH b.h))):=fun u hu=>hid_any b.h u hh (ht.below (EnvX.bel hu))
 have HWK:Hid (Rt w 106 #[hdV b.h] (.agg (wcs (workH b.h)))):=fun u hu=>hwork_any b.h u hh
 have HLF:Hid (Rt w 105 #[idv (idH b.h), .agg (wcs (workH b.h))] (totV (leafH b.h))):=fun u hu=>mleaf_any (idH b.h) (workH b.h) u (idH_id b.h) (workH_lt b.h)
 have E1:Hid (EnvX w ((w.alloc (.cells (blkA b) 37)).alloc (.cells (totA zTot) 61)) [(w.heap.size+1,oc (totA zTot) 61),(w.heap.size,oc (blkA b) 37)]):=(EnvX.start w).two _ _
 clear kb ht hh
 unfold blkV totV
 go_enter func56,ntmps56
 go_upto_region 1 with (fail)
 rw[zero_totA]
 generalize (w.alloc (.cells (blkA b) 37)).alloc (.cells (totA zTot) 61)=W at *
 refine rgK [0,1,2,3,4,5,6] 1 E1 rfl fun hw=>?_
 refine qf rfl hw ?_
 refine qv rfl (fun u hu=>load_any_op u (loads_hd HOB.out.len (box_blk_hd hu (mT mH) HOB.out.len)).1 rfl) hw ?_
 refine qc rfl func32 (fun u hu=>HID.out u (nl hu)) hw ?_
 refine qf rfl hw ?_
 refine qv rfl (fun u hu=>load_any_op u (loads_hd HOB.out.len (box_blk_hd hu (mT mH) HOB.out.len)).1 rfl) hw ?_
 refine qc rfl func106 (fun u hu=>HWK.out u (nl hu)) hw ?_
 refine qc rfl func105 (fun u hu=>HLF.out u (nl hu)) hw ?_
 refine wpG_nil<|aO 7 (so rfl HLE.out mH (infoTot _ (totA_size HO.out)) (zTot_size.trans (totA_size HO.out).symm) (totA_one _) ?_)
 intro he2
 refine eM fun u4 EX3=>?_
 have Q0:=hD (EnvX.box EX3.out _ _ mH)
 have HBEL:=hD EX3.out.bel
 clear EX3
 go_wp2_with ((with_reducible refine bodyPost_ret (v:= .agg (totA (leafH b.h))) ?_ ?_ ?_);(exact results_cell_row (p:=2) (ty:=61) results56 _ _ (w.heap.size+1) 61 (totA (leafH b.h)) (0,0) _ rfl Q0.out underlying61 rfl (infoTot _ (totA_size HO.out)));(rfl))
 exact HBEL.out
theorem vceachI(l:List BlkM)(A:Option Addr)(n c:Nat)(w:World)(hl:l.length=n)(hn:n≤1000000)(hA:BlksIn w A l)(ht:Tables w):
  Calls Tryz.prog 50 #[.slice A n c, .func (.func 51) #[] #[]] w fun e w'=>(∃v,e= .returned v∧w'.ownsRow w.heap.size 3 1 v n (((levelsB (rsB l)).map i64V)))∧Below w.heap.size w w':=by
 have HL:=hD hl
 have HN6:Hid (n≤1000000):=by show _≤_;omega
 have HN63:Hid (n<9223372036854775808):=by show _<_;omega
 have HNM:Hid (n≤maxLen):=by show _≤_;unfold maxLen;omega
 have HAA:=hD hA
 have HFN:Hid (∀(u:World)(x:BlkM),EnvX w u []→BlkOk w x→Calls Tryz.prog 51 #[blkV x] u fun e w'=>e= .returned (.int .i64 (levelH x.h))∧Below u.heap.size u w'):=fun u x hu hx=>vclevelOf x u (hx.up (EnvX.bel hu)) (ht.below (EnvX.bel hu))
 have E1:Hid (EnvX w w []):=EnvX.start w
 clear hl hn hA ht
 go_enter func50,ntmps50
 go_upto_region 1 with (fail)
 refine rgQ [0,1] [2,3] E1 rfl fun hw=>?_
 refine qo rfl hw ?_
 refine qv rfl (fun u hu=>len_op underlying22 HN63.out u rfl) hw ?_
 refine wpG_nil<|(hOp_fresh (R:=fun v N=> ∃g cur,v= .slice (some ⟨g,0,none⟩) 0 n∧N=[(g,oc cur 3)]∧cur.size=n*1) (M0:=[]) rfl rfl (fun _ h=>h) (fun u hu=>FAt_makeR2 elIntC HN6.out rfl u) ?_)
 rintro _ _ ⟨gm,cm,rfl,rfl,hcm⟩ hf he2;intro K' hK';go_big_quiet_op;go_big_quiet_on
 have HCM:=hD hcm
 have HGM:=hD (hf _ (mS.2 rfl))
 clear hcm
 clear hf
 refine phE [3] [] he2 fun hw=>?_
 refine qo rfl hw ?_
 refine enP fun u5 EX4=>?_
 go_upto_region 2 with (fail)
 refine rgQ [0,1,2] [] EX4 rfl fun hw=>?_
 refine qo rfl hw ?_
 refine qv rfl (fun u hu=>len_op underlying22 HN63.out u rfl) hw ?_
 refine qo rfl hw ?_
 refine enP fun u8 EX7=>?_
 have HST:Hid (∃N,FreshR 3 1 0 (((levelsB (rsB l)).take (0)).map i64V) (.slice (some ⟨gm,0,none⟩) 0 n) N∧freshN w N []∧EnvX w u8 N):=⟨[(gm,oc cm 3)], .inl ⟨gm,n,cm,rfl,rfl,Nat.zero_le _,HNM.out,HCM.out,by rw[Nat.zero_mul,List.take_zero];rfl⟩,(fun y hy=>by cases mS.1 hy;exact⟨HGM.out.1,fun z hz=>by cases hz⟩),EX7.out⟩
 clear EX7 E1 HCM HGM
 go_upto_region 3 with (fail)
 go_loopw [5,13] (fun v iv u=> ∃k:Nat,k≤n∧iv= .int .i64 (k:Int)∧Hid (∃N,FreshR 3 1 k (((levelsB (rsB l)).take (k)).map i64V) v N∧freshN w N []∧EnvX w u N)) (fun _ iv _=>n- (intOf iv).toNat)
 case atStart=>exact⟨0,by omega,rfl,HST⟩
 case round=>
  obtain⟨k,hk,rfl,hinv⟩:=hrel
  obtain⟨N,hF,hfr,hE⟩:=hinv.out
  obtain⟨A',c',rfl,-,-⟩:=FreshR.formR hF
  have EK:=hD hE
  have HF:=hD hF
  have HFR:=hD hfr
  clear hinv HST hE hfr hF
  by_cases hlt:k<n
  · have C2:Hid (decide ((k:Int)<(n:Int))=true):=decide_eq_true (by omega)
    have HI:=hD hlt
    have hil:k<l.length:=by rw[HL.out];exact hlt
    obtain⟨ad,rfl,-,hld⟩:=HAA.out.loads hil
    have HLD:Hid (∀u,EnvX w u []→(loadVar 37 (ad.add (k*137))).run Tryz.prog u= .ok (blkV (l.getD k noBlkM)) u):=fun u hu=>(hld u hu).1
    have HTX:=hD (HAA.out.get hil)
    obtain⟨x,hx⟩: ∃x,l.getD k noBlkM=x:=⟨_,rfl⟩
    rw[hx]at HLD HTX
    have HST:Hid (((levelsB (rsB l)).take (k+1)).map i64V=((levelsB (rsB l)).take k).map i64V++[i64V (levelH x.h)]):=by
     show _=_
     have h:(rsB l).getD k noBlk=x.r:=by rw[←hx];exact rsB_at hil
     have h2:(rsB l)[k]?=some x.r:=by
      have hk2:k<(rsB l).length:=by rw[rsB_len];exact hil
      rw[gD,gE hk2]at h
      rw[gE hk2]
      exact congrArg some h
     unfold levelsB
     rw[List.take_add_one,List.getElem?_map,h2,List.map_append]
     rfl
    have HFX:Hid (Rt w 51 #[blkV x] (.int .i64 (levelH x.h))):=fun u hu=>HFN.out u x hu HTX.out
    have HFL:Hid ((((levelsB (rsB l)).take k).map i64V).length=k*1):=by
     show _=_
     unfold levelsB
     rw[lM,List.length_take,lM,rsB_len,HL.out]
     omega
    clear hld hil hlt hx
    have HKx:Hid (lenH x.h):=HTX.out.h.len
    generalize levelH x.h=lf at *
    go_upto_region 3 with (fail)
    refine rgQ [0] [] EK rfl fun hw=>?_
    refine qv rfl (fun u hu=>ltZ_op u C2.out rfl rfl) hw ?_
    refine enP fun u23 EX22=>?_
    go_upto_region 4 with (fail)
    refine rgQ [0,1] [2,3] EX22 rfl fun hw=>?_
    refine qv rfl (fun u hu=>idxSl_op underlying22 aggBlk.size HI.out u rfl rfl) hw ?_
    refine qv rfl (fun u hu=>load_any_op u (HLD.out u (nl hu)) rfl) hw ?_
    refine wpG_nil<|qn rfl (new_blk _) fun g7 HGg7 he25=>?_
    change lexH _ _ _ _ _ _ ((g7,oc (blkA noBlkM) 37)::N)
    refine(sh rfl HGg7 (infoBlk _ (blkA_size HKx.out)) (blk_sizes HKx.out) (blkA_one _) ?_)
    refine fun _=>enL fun u28 EX27=>?_
    go_upto_region 5 with (fail)
    refine rgP [0,1,2,3] [4,5,6] EX27 rfl ?_;intro hw29 hone
    iterate 2 refine qo rfl ⟨_,hw29⟩ ?_
    refine ql rfl mH HKx.out ⟨_,hw29⟩ ?_
    (refine wpG_callV (f:=51) (args:= #[blkV x]) (caps:= #[]) (all:= #[blkV x]) (v:= .int .i64 lf) rfl rfl rfl rfl rfl func51 rfl rfl (fun u hu=>HFX.out u (nl hu)) ?_ hw29;intro K hK;go_big_quiet_op;go_big_quiet_on)
    clear hone hw29
    refine wpG_nil<|(hOp_fresh (R:=BuiltR 3 ([i64V lf])) (M0:=((g7,oc (blkA x) 37)::N)) rfl rfl (fun _ h=>h) (fun u hu=>FAt_buildS1 elIntC (x:= .int .i64 lf) rfl rfl u) ?_)
    rintro _ _ ⟨gb,rfl,rfl⟩ hf he30;intro K' hK';go_big_quiet_op;go_big_quiet_on
    clear hf
    change lexH _ _ _ _ _ _ ((gb,oc ([i64V lf]).toArray 3)::((g7,oc (blkA x) 37)::N))
    refine(hOp_own (gd:=none) (R:=GrownR w 3 1 (k+1) (((levelsB (rsB l)).take k).map i64V++[i64V lf]) []) rfl rfl rfl rfl (fun u hu=>appX_op elIntC (m:=1) [] hu HFL.out rfl (fun v hv=>by cases mS.1 hv;rfl) HF.out (fun y MEM=>⟨(mT (mT MEM)),(HFR.out y MEM).1⟩) (src_box (k:=0) hu mH (by rw[List.drop_zero,List.take_length])) (fun _ h=>by cases h) (by have:=HI.out;have:=HN6.out;omega) rfl rfl) ?_)
    rintro x9 M' ⟨N9,hM9,hF9,hn9⟩ he31;obtain rfl:N9=M':=(by rw[hM9,List.append_nil]);intro K' hK';go_big_quiet_op;go_big_quiet_on
    have HF9:=hD (And.intro hF9 hn9)
    clear hF9 hn9
    refine phE [6] [] he31 fun hw=>?_
    refine qo rfl hw ?_
    refine enP fun u34 EX33=>?_
    have HNX:Hid (∃N,FreshR 3 1 (k+1) (((levelsB (rsB l)).take ((k+1))).map i64V) x9 N∧freshN w N []∧EnvX w u34 N):=⟨N9,by rw[HST.out];exact HF9.out.1,HF9.out.2,EX33.out⟩
    have hii:=HI.out
    have hn:=HN63.out
    go_wp2
    go_roundw
    case rel=>exact⟨k+1,by omega,by go_num,HNX⟩
    case measure=>simp[intOf];omega
  · obtain rfl:k=n:=by omega
    have C2:Hid (decide ((k:Int)<(k:Int))=false):=decide_eq_false (by omega)
    go_upto_region 3 with (fail)
    refine rgQ [0] [] EK rfl fun hw=>?_
    refine qv rfl (fun u hu=>ltZ_op u C2.out rfl rfl) hw ?_
    refine enP fun u303 EX302=>?_
    go_upto_region 7 with (fail)
    refine rgQ [0,1] [] EX302 rfl fun hw=>?_
    refine qw 2 hw ?_
    refine enP fun u306 EX305=>?_
    have HO:Hid (u306.ownsRow w.heap.size 3 1 (.slice A' k c') k (((levelsB (rsB l)).map i64V))):=by
     have hF:=HF.out
     have hl:(levelsB (rsB l)).length=k:=by unfold levelsB;rw[lM,rsB_len,HL.out]
     rw[tL (by rw[hl];exact Nat.le_refl _)]at hF
     exact hF.own (by rw[lM,hl,Nat.mul_one]) (fun y hy=>⟨(HFR.out y hy).1,EnvX.box EX305.out _ _ hy⟩)
    have HBE:=hD (EnvX.bel EX305.out)
    go_wp2
    go_ret
    exact⟨⟨_,rfl,HO.out⟩,HBE.out⟩
theorem vceachL(l:List BlkM)(A:Option Addr)(n c:Nat)(w:World)(hl:l.length=n)(hn:n≤1000000)(hA:BlksIn w A l)(ht:Tables w):
  Calls Tryz.prog 55 #[.slice A n c, .func (.func 56) #[] #[]] w fun e w'=>(∃v,e= .returned v∧w'.ownsRow w.heap.size 61 37 v n (((leavesB (rsB l)).map totC).flatten))∧Below w.heap.size w w':=by
 have HL:=hD hl
 have HN6:Hid (n≤1000000):=by show _≤_;omega
 have HN63:Hid (n<9223372036854775808):=by show _<_;omega
 have HNM:Hid (n≤maxLen):=by show _≤_;unfold maxLen;omega
 have HAA:=hD hA
 have HFN:Hid (∀(u:World)(x:BlkM),EnvX w u []→BlkOk w x→Calls Tryz.prog 56 #[blkV x] u fun e w'=>e= .returned (totV (leafH x.h))∧Below u.heap.size u w'):=fun u x hu hx=>vcleafOf x u (hx.up (EnvX.bel hu)) (ht.below (EnvX.bel hu))
 have E1:Hid (EnvX w w []):=EnvX.start w
 clear hl hn hA ht
 go_enter func55,ntmps55
 go_upto_region 1 with (fail)
 refine rgQ [0,1] [2,3] E1 rfl fun hw=>?_
 refine qo rfl hw ?_
 refine qv rfl (fun u hu=>len_op underlying22 HN63.out u rfl) hw ?_
 refine wpG_nil<|(hOp_fresh (R:=fun v N=> ∃g cur,v= .slice (some ⟨g,0,none⟩) 0 n∧N=[(g,oc cur 61)]∧cur.size=n*37) (M0:=[]) rfl rfl (fun _ h=>h) (fun u hu=>FAt_makeR2 elTot HN6.out rfl u) ?_)
 rintro _ _ ⟨gm,cm,rfl,rfl,hcm⟩ hf he2;intro K' hK';go_big_quiet_op;go_big_quiet_on
 have HCM:=hD hcm
 have HGM:=hD (hf _ (mS.2 rfl))
 clear hcm
 clear hf
 refine phE [3] [] he2 fun hw=>?_
 refine qo rfl hw ?_
 refine enP fun u5 EX4=>?_
 go_upto_region 2 with (fail)
 refine rgQ [0,1,2] [] EX4 rfl fun hw=>?_
 refine qo rfl hw ?_
 refine qv rfl (fun u hu=>len_op underlying22 HN63.out u rfl) hw ?_
 refine qo rfl hw ?_
 refine enP fun u8 EX7=>?_
 have HST:Hid (∃N,FreshR 61 37 0 ((((leavesB (rsB l)).take (0)).map totC).flatten) (.slice (some ⟨gm,0,none⟩) 0 n) N∧freshN w N []∧EnvX w u8 N):=⟨[(gm,oc cm 61)], .inl ⟨gm,n,cm,rfl,rfl,Nat.zero_le _,HNM.out,HCM.out,by rw[Nat.zero_mul,List.take_zero];rfl⟩,(fun y hy=>by cases mS.1 hy;exact⟨HGM.out.1,fun z hz=>by cases hz⟩),EX7.out⟩
 clear EX7 E1 HCM HGM
 go_upto_region 3 with (fail)
 go_loopw [5,13] (fun v iv u=> ∃k:Nat,k≤n∧iv= .int .i64 (k:Int)∧Hid (∃N,FreshR 61 37 k ((((leavesB (rsB l)).take (k)).map totC).flatten) v N∧freshN w N []∧EnvX w u N)) (fun _ iv _=>n- (intOf iv).toNat)
 case atStart=>exact⟨0,by omega,rfl,HST⟩
 case round=>
  obtain⟨k,hk,rfl,hinv⟩:=hrel
  obtain⟨N,hF,hfr,hE⟩:=hinv.out
  obtain⟨A',c',rfl,-,-⟩:=FreshR.formR hF
  have EK:=hD hE
  have HF:=hD hF
  have HFR:=hD hfr
  clear hinv HST hE hfr hF
  by_cases hlt:k<n
  · have C2:Hid (decide ((k:Int)<(n:Int))=true):=decide_eq_true (by omega)
    have HI:=hD hlt
    have hil:k<l.length:=by rw[HL.out];exact hlt
    obtain⟨ad,rfl,-,hld⟩:=HAA.out.loads hil
    have HLD:Hid (∀u,EnvX w u []→(loadVar 37 (ad.add (k*137))).run Tryz.prog u= .ok (blkV (l.getD k noBlkM)) u):=fun u hu=>(hld u hu).1
    have HTX:=hD (HAA.out.get hil)
    obtain⟨x,hx⟩: ∃x,l.getD k noBlkM=x:=⟨_,rfl⟩
    rw[hx]at HLD HTX
    have HST:Hid ((((leavesB (rsB l)).take (k+1)).map totC).flatten=(((leavesB (rsB l)).take k).map totC).flatten++totC (leafH x.h)):=by
     show _=_
     have h:(rsB l).getD k noBlk=x.r:=by rw[←hx];exact rsB_at hil
     have h2:(rsB l)[k]?=some x.r:=by
      have hk2:k<(rsB l).length:=by rw[rsB_len];exact hil
      rw[gD,gE hk2]at h
      rw[gE hk2]
      exact congrArg some h
     unfold leavesB
     rw[List.take_add_one,List.getElem?_map,h2,List.map_append]
     rw[List.flatten_append]
     simp[BlkM.r]
    have HFX:Hid (Rt w 56 #[blkV x] (totV (leafH x.h))):=fun u hu=>HFN.out u x hu HTX.out
    have HFL:Hid (((((leavesB (rsB l)).take k).map totC).flatten).length=k*37):=by
     show _=_
     rw[flatT_len ((leaves_okB (rsB l)).1.take k),List.length_take]
     unfold leavesB
     rw[lM,rsB_len,HL.out]
     omega
    clear hld hil hlt hx
    have HKx:Hid (lenH x.h):=HTX.out.h.len
    have HOK:Hid (len32 (leafH x.h)):=(idH_id x.h).1
    generalize leafH x.h=lf at *
    go_upto_region 3 with (fail)
    refine rgQ [0] [] EK rfl fun hw=>?_
    refine qv rfl (fun u hu=>ltZ_op u C2.out rfl rfl) hw ?_
    refine enP fun u23 EX22=>?_
    go_upto_region 4 with (fail)
    refine rgQ [0,1] [2,3] EX22 rfl fun hw=>?_
    refine qv rfl (fun u hu=>idxSl_op underlying22 aggBlk.size HI.out u rfl rfl) hw ?_
    refine qv rfl (fun u hu=>load_any_op u (HLD.out u (nl hu)) rfl) hw ?_
    refine wpG_nil<|qn rfl (new_blk _) fun g7 HGg7 he25=>?_
    change lexH _ _ _ _ _ _ ((g7,oc (blkA noBlkM) 37)::N)
    refine(sh rfl HGg7 (infoBlk _ (blkA_size HKx.out)) (blk_sizes HKx.out) (blkA_one _) ?_)
    refine fun _=>enL fun u28 EX27=>?_
    go_upto_region 5 with (fail)
    refine rgP [0,1,2,3] [4,5,6] EX27 rfl ?_;intro hw29 hone
    iterate 2 refine qo rfl ⟨_,hw29⟩ ?_
    refine ql rfl mH HKx.out ⟨_,hw29⟩ ?_
    (refine wpG_callV (f:=56) (args:= #[blkV x]) (caps:= #[]) (all:= #[blkV x]) (v:=totV lf) rfl rfl rfl rfl rfl func56 rfl rfl (fun u hu=>HFX.out u (nl hu)) ?_ hw29;intro K hK;go_big_quiet_op;go_big_quiet_on)
    clear hone hw29
    refine wpG_nil<|(hOp_fresh (R:=BuiltR 61 (totC lf)) (M0:=((g7,oc (blkA x) 37)::N)) rfl rfl (fun _ h=>h) (fun u hu=>FAt_buildR elTot (totC_len HOK.out) (totC_one _) rfl u) ?_)
    rintro _ _ ⟨gb,rfl,rfl⟩ hf he30;intro K' hK';go_big_quiet_op;go_big_quiet_on
    clear hf
    change lexH _ _ _ _ _ _ ((gb,oc (totC lf).toArray 61)::((g7,oc (blkA x) 37)::N))
    refine(hOp_own (gd:=none) (R:=GrownR w 61 37 (k+1) ((((leavesB (rsB l)).take k).map totC).flatten++totC lf) []) rfl rfl rfl rfl (fun u hu=>appX_op elTot (m:=1) [] hu HFL.out (by rw[Nat.one_mul];exact totC_len HOK.out) (totC_one _) HF.out (fun y MEM=>⟨(mT (mT MEM)),(HFR.out y MEM).1⟩) (src_box (k:=0) hu mH (by rw[List.drop_zero,List.take_length])) (fun _ h=>by cases h) (by have:=HI.out;have:=HN6.out;omega) rfl rfl) ?_)
    rintro x9 M' ⟨N9,hM9,hF9,hn9⟩ he31;obtain rfl:N9=M':=(by rw[hM9,List.append_nil]);intro K' hK';go_big_quiet_op;go_big_quiet_on
    have HF9:=hD (And.intro hF9 hn9)
    clear hF9 hn9
    refine phE [6] [] he31 fun hw=>?_
    refine qo rfl hw ?_
    refine enP fun u34 EX33=>?_
    have HNX:Hid (∃N,FreshR 61 37 (k+1) ((((leavesB (rsB l)).take ((k+1))).map totC).flatten) x9 N∧freshN w N []∧EnvX w u34 N):=⟨N9,by rw[HST.out];exact HF9.out.1,HF9.out.2,EX33.out⟩
    have hii:=HI.out
    have hn:=HN63.out
    go_wp2
    go_roundw
    case rel=>exact⟨k+1,by omega,by go_num,HNX⟩
    case measure=>simp[intOf];omega
  · obtain rfl:k=n:=by omega
    have C2:Hid (decide ((k:Int)<(k:Int))=false):=decide_eq_false (by omega)
    go_upto_region 3 with (fail)
    refine rgQ [0] [] EK rfl fun hw=>?_
    refine qv rfl (fun u hu=>ltZ_op u C2.out rfl rfl) hw ?_
    refine enP fun u303 EX302=>?_
    go_upto_region 7 with (fail)
    refine rgQ [0,1] [] EX302 rfl fun hw=>?_
    refine qw 2 hw ?_
    refine enP fun u306 EX305=>?_
    have HO:Hid (u306.ownsRow w.heap.size 61 37 (.slice A' k c') k (((leavesB (rsB l)).map totC).flatten)):=by
     have hF:=HF.out
     have hl:(leavesB (rsB l)).length=k:=by unfold leavesB;rw[lM,rsB_len,HL.out]
     rw[tL (by rw[hl];exact Nat.le_refl _)]at hF
     exact hF.own (by rw[flatT_len (leaves_okB (rsB l)).1,hl]) (fun y hy=>⟨(HFR.out y hy).1,EnvX.box EX305.out _ _ hy⟩)
    have HBE:=hD (EnvX.bel EX305.out)
    go_wp2
    go_ret
    exact⟨⟨_,rfl,HO.out⟩,HBE.out⟩
theorem vccopyTx(x:TxM)(w:World)(hx:TxOk w x)(hf:bigX x.r):Hands 99 #[txV x] w (RTx x.r):=by
 unfold Hands
 have HTX:=hD hx
 have HLE:Hid (w.heap.size≤w.heap.size+1):=by show _≤_;omega
 have HCI:Hid (∀u,EnvX w u []→Calls Tryz.prog 152 #[.slice x.A1 x.n1 x.c1] u fun e w'=>(∃v,e= .returned v∧w'.ownsRow u.heap.size 133 33 v x.n1 ((x.r.ins.map inC).flatten))∧Below u.heap.size u w'):=fun u hu=>vcloneI x.r.ins x.A1 x.n1 x.c1 u hx.l1 (by have:=hf.1;rw[hx.l1]at this;exact this) hx.o1 (hx.up (EnvX.bel hu)).m1
 have HCO:Hid (∀u,EnvX w u []→Calls Tryz.prog 153 #[.slice x.A2 x.n2 x.c2] u fun e w'=>(∃v,e= .returned v∧w'.ownsRow u.heap.size 135 2 v x.n2 ((x.r.outs.map outC).flatten))∧Below u.heap.size u w'):=fun u hu=>vcloneO x.r.outs x.A2 x.n2 x.c2 u hx.l2 (by have:=hf.2;rw[hx.l2]at this;exact this) (hx.up (EnvX.bel hu)).m2
 have E1:Hid (EnvX w ((w.alloc (.cells (txA x) 77)).alloc (.cells (txA noTxM) 77)) [(w.heap.size+1,oc (txA noTxM) 77),(w.heap.size,oc (txA x) 77)]):=(EnvX.start w).two _ _
 clear hx hf
 unfold txV
 go_enter func99,ntmps99
 go_upto_region 1 with (fail)
 change Code.wp _ _ _ _ ((w.alloc (.cells (txA x) 77)).alloc (.cells (txA noTxM) 77))
 generalize (w.alloc (.cells (txA x) 77)).alloc (.cells (txA noTxM) 77)=W at *
 refine rgK [0,1,3,4] 4 E1 rfl fun hw=>?_
 refine qf rfl hw ?_
 refine ql rfl (mT mH) trivial hw ?_
 refine qf rfl hw ?_
 refine ql rfl (mT mH) trivial hw ?_
 refine wpG_nil<|aO 2 (qr rfl func152 (fun u hu=>callsR_fresh (HCI.out u (nl hu))) ?_)
 rintro x9 N2 hF hf he2
 obtain⟨A2,c2,rfl,k1,k2⟩:=FreshR.formR hF
 have HF2:=hD (And.intro hF (And.intro k1 k2))
 have HN2:Hid (∀y∈N2,w.heap.size≤y.1∧y.1≠w.heap.size+1):=fun y hy=>⟨(hf y hy).1,fun h=>(hf y hy).2 _ mH h.symm⟩
 clear hF k1 k2
 clear hf
 change anyH _ _ _ _ _ _ _ _ (N2++((w.heap.size+1,oc (txA noTxM) 77)::((w.heap.size,oc (txA x) 77)::[])))
 refine aO 5 (qr rfl func153 (fun u hu=>callsR_fresh (HCO.out u (nl hu))) ?_)
 rintro x9 N5 hF hf he3
 obtain⟨A5,c5,rfl,k1,k2⟩:=FreshR.formR hF
 have HF5:=hD (And.intro hF (And.intro k1 k2))
 have HN5:Hid (∀y∈N5,w.heap.size≤y.1∧y.1≠w.heap.size+1):=fun y hy=>⟨(hf y hy).1,fun h=>(hf y hy).2 _ (mR mH) h.symm⟩
 clear hF k1 k2
 clear hf
 refine phF [6] 1 rfl he3 fun hw=>?_
 refine qv (v:= .agg (txA ⟨x.r,A2,x.n1,c2,A5,x.n2,c5⟩)) rfl (fun u hu=>buildA_op u (built_tx x.r A2 x.n1 c2 A5 x.n2 c5)) hw ?_
 refine wpG_nil<|aO 7 (hOp_store rfl (w.heap.size+1) (txA ⟨x.r,A2,x.n1,c2,A5,x.n2,c5⟩) rfl rfl HLE.out 77 ((txA noTxM)) (mR (mR mH)) (infoTx _ (txA_size _)) ((txA_size _).trans (txA_size _).symm) (txA_one _) ((w.heap.size+1,oc (txA ⟨x.r,A2,x.n1,c2,A5,x.n2,c5⟩) 77)::(N5++(N2++[]))) (mA ⟨.inl rfl,fun y hy=> .inr ((List.mem_append.1 hy).elim (fun h=>⟨mL h,(HN5.out y h).2⟩) (fun h=>⟨mR (mL (by simpa using h)),(HN2.out y (by simpa using h)).2⟩))⟩) ?_)
 intro he5
 refine eM fun u7 EX6=>?_
 have HKT:Hid (KeptA (N5++N2) (fun u=>TxOk u ⟨x.r,A2,x.n1,c2,A5,x.n2,c5⟩)):=kept_tx HTX.out HF2.out HF5.out (fun y hy=>mR hy) (fun y hy=>mL hy)
 have HBX:Hid (∀y∈N5++N2,y∈((w.heap.size+1,oc (txA ⟨x.r,A2,x.n1,c2,A5,x.n2,c5⟩) 77)::(N5++(N2++[])))):=fun y hy=>mT (by simpa using hy)
 have HEX:=hD EX6.out
 have HFR:Hid (∀y∈N5++N2,w.heap.size≤y.1∧u7.heap[y.1]?=some y.2):=fun y hy=>⟨(List.mem_append.1 hy).elim (fun h=>(HN5.out y h).1) (fun h=>(HN2.out y h).1),EnvX.box HEX.out _ _ (HBX.out y hy)⟩
 have Q0:=hD (EnvX.box EX6.out _ _ mH)
 have HBEL:=hD EX6.out.bel
 go_wp2_with ((with_reducible refine bodyPost_ret (v:= .agg (txA ⟨x.r,A2,x.n1,c2,A5,x.n2,c5⟩)) ?_ ?_ ?_);(exact results_cell_row (p:=2) (ty:=77) results99 _ _ (w.heap.size+1) 77 (txA ⟨x.r,A2,x.n1,c2,A5,x.n2,c5⟩) (0,0) _ rfl Q0.out underlying77 rfl (infoTx _ (txA_size _)));(rfl))
 first|exact⟨_,N5++N2,rfl,⟨⟨x.r,A2,x.n1,c2,A5,x.n2,c5⟩,rfl,rfl,HKT.out⟩,HBEL.out,HFR.out⟩|exact⟨N5++N2,⟨⟨x.r,A2,x.n1,c2,A5,x.n2,c5⟩,rfl,rfl,HKT.out⟩,HBEL.out,fun a b hy=>HFR.out (a,b) hy⟩
theorem vceachT(l:List TxM)(A:Option Addr)(n c:Nat)(w:World)(hl:l.length=n)(hn:n≤1000000)(hA:TxsIn w A l)(hf: ∀x∈l,bigX x.r):Hands 98 #[.slice A n c, .func (.func 99) #[] #[]] w (RTxs l n):=by
 unfold Hands
 have HL:=hD hl
 have HN6:Hid (n≤1000000):=by show _≤_;omega
 have HN63:Hid (n<9223372036854775808):=by show _<_;omega
 have HNM:Hid (n≤maxLen):=by show _≤_;unfold maxLen;omega
 have HAA:=hD hA
 have HFW:=hD hf
 have HFN:Hid (∀(u:World)(x:TxM),EnvX w u []→TxOk w x→bigX x.r→Hands 99 #[txV x] u (RTx x.r)):=fun u x hu hx hm=>vccopyTx x u (hx.up (EnvX.bel hu)) hm
 have E1:Hid (EnvX w w []):=EnvX.start w
 clear hl hn hA hf
 go_enter func98,ntmps98
 go_upto_region 1 with (fail)
 refine rgQ [0,1] [2,3] E1 rfl fun hw=>?_
 refine qo rfl hw ?_
 refine qv rfl (fun u hu=>len_op underlying23 HN63.out u rfl) hw ?_
 refine wpG_nil<|(hOp_fresh (R:=fun v N=> ∃g cur,v= .slice (some ⟨g,0,none⟩) 0 n∧N=[(g,oc cur 77)]∧cur.size=n*2) (M0:=[]) rfl rfl (fun _ h=>h) (fun u hu=>FAt_makeR2 elTx HN6.out rfl u) ?_)
 rintro _ _ ⟨gm,cm,rfl,rfl,hcm⟩ hf he2;intro K' hK';go_big_quiet_op;go_big_quiet_on
 have HCM:=hD hcm
 have HGM:=hD (hf _ (mS.2 rfl))
 clear hcm
 clear hf
 refine phE [3] [] he2 fun hw=>?_
 refine qo rfl hw ?_
 refine enP fun u5 EX4=>?_
 go_upto_region 2 with (fail)
 refine rgQ [0,1,2] [] EX4 rfl fun hw=>?_
 refine qo rfl hw ?_
 refine qv rfl (fun u hu=>len_op underlying23 HN63.out u rfl) hw ?_
 refine qo rfl hw ?_
 refine enP fun u8 EX7=>?_
 have HST:Hid (∃q Nx N,q.length=0∧FreshR 77 2 0 (q.map txC).flatten (.slice (some ⟨gm,0,none⟩) 0 n) Nx∧(∀y∈Nx,w.heap.size≤y.1)∧(∀y∈N,w.heap.size≤y.1∧ ∀z∈Nx,y.1≠z.1)∧CopT l q N∧EnvX w u8 (Nx++N)):=⟨[],[(gm,oc cm 77)],[],rfl, .inl ⟨gm,n,cm,rfl,rfl,Nat.zero_le _,HNM.out,HCM.out,by rw[Nat.zero_mul,List.take_zero];rfl⟩,(fun y hy=>by cases mS.1 hy;exact HGM.out.1),(fun y hy=>by cases hy),(fun j hj=>absurd hj (Nat.not_lt_zero j)),EX7.out⟩
 clear EX7 E1 HCM HGM
 go_upto_region 3 with (fail)
 go_loopw [5,13] (fun v iv u=> ∃k:Nat,k≤n∧iv= .int .i64 (k:Int)∧Hid (∃q Nx N,q.length=k∧FreshR 77 2 k (q.map txC).flatten v Nx∧(∀y∈Nx,w.heap.size≤y.1)∧(∀y∈N,w.heap.size≤y.1∧ ∀z∈Nx,y.1≠z.1)∧CopT l q N∧EnvX w u (Nx++N))) (fun _ iv _=>n- (intOf iv).toNat)
 case atStart=>exact⟨0,by omega,rfl,HST⟩
 case round=>
  obtain⟨k,hk,rfl,hinv⟩:=hrel
  obtain⟨q,Nx,N,hq,hF,hB,hN,hCP,hE⟩:=hinv.out
  obtain⟨A',c',rfl,hc1,hc2⟩:=FreshR.formR hF
  have EK:=hD hE
  have HCP:=hD hCP
  have HNN:=hD hN
  have HNX0:=hD hB
  have HF:=hD hF
  have HQ:=hD hq
  have HC1:=hD (And.intro hc1 hc2)
  clear hinv HST hE hCP hN hB hF hq hc1 hc2
  by_cases hlt:k<n
  · have C2:Hid (decide ((k:Int)<(n:Int))=true):=decide_eq_true (by omega)
    have HI:=hD hlt
    have hil:k<l.length:=by rw[HL.out];exact hlt
    obtain⟨ad,rfl,-,hld⟩:=HAA.out.loads hil
    have HLD:Hid (∀u,EnvX w u []→(loadVar 77 (ad.add (k*2))).run Tryz.prog u= .ok (txV (l.getD k noTxM)) u):=fun u hu=>(hld u hu).1
    have HTX:=hD (HAA.out.get hil)
    have HMX:=hD (HFW.out (l.getD k noTxM) (by rw[gD,gE hil];exact List.getElem_mem hil))
    obtain⟨x,hx⟩: ∃x,l.getD k noTxM=x:=⟨_,rfl⟩
    rw[hx]at HLD HTX HMX
    have HX:=hD hx
    have HFX:Hid (∀u,EnvX w u []→Hands 99 #[txV x] u (RTx x.r)):=fun u hu=>HFN.out u x hu HTX.out HMX.out
    have HFL:Hid ((q.map txC).flatten.length=k*2):=by
     show _=_
     have hR:isRows 2 (q.map txC):=fun y hy=>by
      obtain⟨t,ht,rfl⟩:=List.mem_map.1 hy
      rfl
     rw[hR.flat_len,lM,HQ.out]
    clear hld hil hlt hx
    go_upto_region 3 with (fail)
    refine rgQ [0] [] EK rfl fun hw=>?_
    refine qv rfl (fun u hu=>ltZ_op u C2.out rfl rfl) hw ?_
    refine enP fun u23 EX22=>?_
    go_upto_region 4 with (fail)
    refine rgQ [0,1] [2,3] EX22 rfl fun hw=>?_
    refine qv rfl (fun u hu=>idxSl_op underlying23 aggTx.size HI.out u rfl rfl) hw ?_
    refine qv rfl (fun u hu=>load_any_op u (HLD.out u (nl hu)) rfl) hw ?_
    refine wpG_nil<|qn rfl (new_tx _) fun g7 HG7 he25=>?_
    change lexH _ _ _ _ _ _ ((g7,oc (txA noTxM) 77)::(Nx++N))
    refine(sh rfl HG7 (infoTx _ (txA_size _)) ((txA_size _).trans (txA_size _).symm) (txA_one _) ?_)
    refine fun _=>enL fun u28 EX27=>?_
    go_upto_region 5 with (fail)
    refine rgQ [0,1,2] [3,4,5,6] EX27 rfl fun hw=>?_
    refine qw 2 hw ?_
    refine ql rfl mH trivial hw ?_
    refine wpG_nil<|(hOp_fresh (R:=RTx x.r) (M0:=((g7,oc (txA x) 77)::(Nx++N))) rfl rfl (fun _ h=>h) (fun u hu=>FAt_callV (f:=99) (args:= #[txV x]) (caps:= #[]) (all:= #[txV x]) rfl rfl rfl func99 rfl rfl u (HFX.out u (nl hu))) ?_)
    rintro _ Nb hF hf he30;intro K' hK';go_big_quiet_op;go_big_quiet_on
    obtain⟨t7,rfl,hr7,hk7⟩:=hF
    have HR7:=hD hr7
    have HK7:=hD hk7
    have HNb:Hid (∀y∈Nb,w.heap.size≤y.1∧ ∀z∈Nx,y.1≠z.1):=fun y hy=>⟨(hf y hy).1,fun z MEM e=>(hf y hy).2 z (mT (mL MEM)) e.symm⟩
    clear hr7 hk7
    clear hf
    change lexH _ _ _ _ _ _ (Nb++((g7,oc (txA x) 77)::(Nx++N)))
    refine(hOp_fresh (R:=BuiltR 77 (txC t7)) (M0:=(Nb++((g7,oc (txA x) 77)::(Nx++N)))) rfl rfl (fun _ h=>h) (fun u hu=>FAt_buildR elTx rfl (txC_one _) rfl u) ?_)
    rintro _ _ ⟨gb,rfl,rfl⟩ hf he31;intro K' hK';go_big_quiet_op;go_big_quiet_on
    clear hf
    change lexH _ _ _ _ _ _ ((gb,oc (txC t7).toArray 77)::(Nb++((g7,oc (txA x) 77)::(Nx++N))))
    refine(hOp_own (gd:=none) (R:=GrownR w 77 2 (k+1) ((q.map txC).flatten++txC t7) (N++Nb)) rfl rfl rfl rfl (fun u hu=>appX_op elTx (m:=1) (N++Nb) hu HFL.out (by rw[Nat.one_mul];exact rfl) (txC_one _) HF.out (fun y MEM=>⟨(mT (mR (mT (mL MEM)))),HNX0.out y MEM⟩) (src_box (k:=0) hu mH (by rw[List.drop_zero,List.take_length])) (fun y hy=>(List.mem_append.1 hy).elim (fun MEM=>⟨(mT (mR (mT (mR MEM)))),fun z hz=>(HNN.out y MEM).2 z hz⟩) (fun MEM=>⟨(mT (mL MEM)),fun z hz=>(HNb.out y MEM).2 z hz⟩)) (by have:=HI.out;have:=HN6.out;omega) rfl rfl) ?_)
    rintro x9 M' ⟨N9,rfl,hF9,hn9⟩ he32;intro K' hK';go_big_quiet_op;go_big_quiet_on
    have HF9:=hD (And.intro hF9 hn9)
    clear hF9 hn9
    refine phE [6] [] he32 fun hw=>?_
    refine qo rfl hw ?_
    refine enP fun u35 EX34=>?_
    have HNX:Hid (∃q Nx N,q.length=(k+1)∧FreshR 77 2 (k+1) (q.map txC).flatten x9 Nx∧(∀y∈Nx,w.heap.size≤y.1)∧(∀y∈N,w.heap.size≤y.1∧ ∀z∈Nx,y.1≠z.1)∧CopT l q N∧EnvX w u35 (Nx++N)):=⟨q++[t7],N9,N++Nb,by rw[lA,HQ.out];rfl,by rw[List.map_append,List.flatten_append,List.map_singleton,List.flatten_singleton];exact HF9.out.1,(fun y hy=>(HF9.out.2 y hy).1),(fun y hy=>⟨(List.mem_append.1 hy).elim (fun h=>(HNN.out y h).1) (fun h=>(HNb.out y h).1),fun z hz=>(HF9.out.2 z hz).2 y hy⟩),HCP.out.step (by rw[HR7.out,HQ.out,HX.out]) (HK7.out.mono (fun y hy=>mR hy)) (fun y hy=>mL hy),EX34.out⟩
    have hii:=HI.out
    have hn:=HN63.out
    go_wp2
    go_roundw
    case rel=>exact⟨k+1,by omega,by go_num,HNX⟩
    case measure=>simp[intOf];omega
  · obtain rfl:k=n:=by omega
    have C2:Hid (decide ((k:Int)<(k:Int))=false):=decide_eq_false (by omega)
    have HD:=hD (HCP.out.done (by rw[HQ.out,HL.out]))
    go_upto_region 3 with (fail)
    refine rgQ [0] [] EK rfl fun hw=>?_
    refine qv rfl (fun u hu=>ltZ_op u C2.out rfl rfl) hw ?_
    refine enP fun u303 EX302=>?_
    go_upto_region 7 with (fail)
    refine rgQ [0,1] [] EX302 rfl fun hw=>?_
    refine qw 2 hw ?_
    refine enP fun u306 EX305=>?_
    have HBE:=hD (EnvX.bel EX305.out)
    have HBX:=hD (fun(y:Nat × Obj)(hy:y∈Nx++N)=>EnvX.box EX305.out _ _ hy)
    have HLO:Hid (∀y∈Nx++N,w.heap.size≤y.1∧u306.heap[y.1]?=some y.2):=fun y hy=>⟨(List.mem_append.1 hy).elim (fun h=>HNX0.out y h) (fun h=>(HNN.out y h).1),HBX.out y hy⟩
    have HRX:Hid (RTxs l k (.slice A' k c') (Nx++N)):=⟨q,A',c',rfl,HC1.out.1,HC1.out.2,HQ.out,HD.out.1,fun w0 u M hu hM=>⟨kept_cells HF.out (by rw[(rowsTx q).flat_len,lM,HQ.out]) w0 u M hu (fun y hy=>hM y (mL hy)),fun t ht=>(HD.out.2 t ht) w0 u M hu (fun y hy=>hM y (mR hy))⟩⟩
    go_wp2
    go_returns
    first|exact⟨_,_,rfl,HRX.out,HBE.out,HLO.out⟩|exact⟨_,HRX.out,HBE.out,fun a b hy=>HLO.out (a,b) hy⟩
theorem vccopyBlock(b:BlkM)(w:World)(kb:BlkOk w b)(mb:midBlk b):Hands 45 #[blkV b] w (RBlk b.r):=by
 unfold Hands
 have HOB:Hid (okHd b.h):=kb.h
 have HLE:Hid (w.heap.size≤w.heap.size+1):=by show _≤_;omega
 have HNB:Hid (lenH noBlkM.h):=len_no
 have l1:=kb.l1
 have m1:=mb.1
 have l2:=kb.l2
 have m2:=mb.2.1
 have HIL:=hD (And.intro kb.l1 kb.o1)
 have HCL:Hid (∀u,EnvX w u []→Calls Tryz.prog 97 #[.slice b.A1 b.n1 b.c1] u fun e w'=>(∃v,e= .returned v∧w'.ownsRow u.heap.size 26 32 v b.n1 ((b.l).flatten.map u8v))∧Below u.heap.size u w'):=fun u hu=>by have h:=lclone_any b.l b.A1 b.n1 b.c1 u kb.l1 (by omega) kb.o1 (kb.m1.up (EnvX.bel hu));unfold OwnI at h;rw[kb.l1]at h;exact h
 have HCX:Hid (∀u,EnvX w u []→Hands 98 #[.slice b.A2 b.n2 b.c2, .func (.func 99) #[] #[]] u (RTxs b.t b.n2)):=fun u hu=>vceachT b.t b.A2 b.n2 b.c2 u kb.l2 (by omega) (kb.m2.up (EnvX.bel hu)) mb.2.2
 have E1:Hid (EnvX w ((w.alloc (.cells (blkA b) 37)).alloc (.cells (blkA noBlkM) 37)) [(w.heap.size+1,oc (blkA noBlkM) 37),(w.heap.size,oc (blkA b) 37)]):=(EnvX.start w).two _ _
 clear kb mb l1 m1 l2 m2
 unfold blkV
 go_enter func45,ntmps45
 go_upto_region 1 with (fail)
 rw[←zero_blkA]
 generalize (w.alloc (.cells (blkA b) 37)).alloc (.cells (blkA noBlkM) 37)=W at *
 refine rgK [0,1,2,3,5,6] 4 E1 rfl fun hw=>?_
 refine qf rfl hw ?_
 refine qv rfl (fun u hu=>load_any_op u (loads_hd HOB.out.len (box_blk_hd hu (mT mH) HOB.out.len)).1 rfl) hw ?_
 refine qf rfl hw ?_
 refine ql rfl (mT mH) HOB.out.len hw ?_
 refine qf rfl hw ?_
 refine ql rfl (mT mH) HOB.out.len hw ?_
 refine wpG_nil<|aO 4 (qr rfl func97 (fun u hu=>callsR_fresh (HCL.out u (nl hu))) ?_)
 rintro x N4 hF hf he2
 obtain⟨A4,c4,rfl,k1,k2⟩:=FreshR.formR hF
 have HF4:=hD (And.intro hF (And.intro k1 k2))
 have HN4:Hid (∀y∈N4,w.heap.size≤y.1∧y.1≠w.heap.size+1):=fun y hy=>⟨(hf y hy).1,fun h=>(hf y hy).2 _ mH h.symm⟩
 clear hF k1 k2
 clear hf
 change anyH _ _ _ _ _ _ _ _ (N4++((w.heap.size+1,oc (blkA noBlkM) 37)::((w.heap.size,oc (blkA b) 37)::[])))
 refine aO 7 (qr rfl func98 (fun u hu=>HCX.out u (nl hu)) ?_)
 rintro x N7 hF hf he3
 obtain⟨q7,A7,c7,rfl,k1,k2,kq,kr,kk⟩:=hF
 have HK1:=hD k1
 have HK2:=hD k2
 have HKQ:=hD kq
 have HKR:=hD kr
 have HKK:=hD kk
 have HN7:Hid (∀y∈N7,w.heap.size≤y.1∧y.1≠w.heap.size+1):=fun y hy=>⟨(hf y hy).1,fun h=>(hf y hy).2 _ (mR mH) h.symm⟩
 clear k1 k2 kq kr kk
 clear hf
 refine phF [8] 1 rfl he3 fun hw=>?_
 refine qv (v:= .agg (blkA ⟨b.h,b.l,A4,b.n1,c4,q7,A7,b.n2,c7⟩)) rfl (fun u hu=>buildA_op u (built_blk (b:=⟨b.h,b.l,A4,b.n1,c4,q7,A7,b.n2,c7⟩) HOB.out.len)) hw ?_
 refine wpG_nil<|aO 9 (hOp_store rfl (w.heap.size+1) (blkA ⟨b.h,b.l,A4,b.n1,c4,q7,A7,b.n2,c7⟩) rfl rfl HLE.out 37 ((blkA noBlkM)) (mR (mR mH)) (infoBlk _ (blkA_size (b:=⟨b.h,b.l,A4,b.n1,c4,q7,A7,b.n2,c7⟩) HOB.out.len)) (blk_sizes (b:=⟨b.h,b.l,A4,b.n1,c4,q7,A7,b.n2,c7⟩) HOB.out.len) (blkA_one _) ((w.heap.size+1,oc (blkA ⟨b.h,b.l,A4,b.n1,c4,q7,A7,b.n2,c7⟩) 37)::(N7++(N4++[]))) (mA ⟨.inl rfl,fun y hy=> .inr ((List.mem_append.1 hy).elim (fun h=>⟨mL h,(HN7.out y h).2⟩) (fun h=>⟨mR (mL (by simpa using h)),(HN4.out y (by simpa using h)).2⟩))⟩) ?_)
 intro he5
 refine eM fun u7 EX6=>?_
 have HIS:Hid (∀w0 u M,EnvX w0 u M→(∀y∈N7++N4,y∈M)→IsBlk b.r ⟨b.h,b.l,A4,b.n1,c4,q7,A7,b.n2,c7⟩ u):=fun w0 u M hu hM=>⟨by show BlkR.mk b.h b.l (rsT q7)=BlkR.mk b.h b.l (rsT b.t);rw[HKR.out],⟨HOB.out,HIL.out.1,HF4.out.2,HIL.out.2,kept_ids HF4.out.1 HIL.out.1 HIL.out.2 w0 u M hu (fun y hy=>hM y (mR hy)),HKQ.out,⟨HK1.out,HK2.out⟩,HKK.out w0 u M hu (fun y hy=>hM y (mL hy))⟩⟩
 have HBX:Hid (∀y∈N7++N4,y∈((w.heap.size+1,oc (blkA ⟨b.h,b.l,A4,b.n1,c4,q7,A7,b.n2,c7⟩) 37)::(N7++(N4++[])))):=fun y hy=>mT (by simpa using hy)
 have HEX:=hD EX6.out
 have HFR:Hid (∀y∈N7++N4,w.heap.size≤y.1∧u7.heap[y.1]?=some y.2):=fun y hy=>⟨(List.mem_append.1 hy).elim (fun h=>(HN7.out y h).1) (fun h=>(HN4.out y h).1),EnvX.box HEX.out _ _ (HBX.out y hy)⟩
 have Q0:=hD (EnvX.box EX6.out _ _ mH)
 have HBEL:=hD EX6.out.bel
 go_wp2_with ((with_reducible refine bodyPost_ret (v:= .agg (blkA ⟨b.h,b.l,A4,b.n1,c4,q7,A7,b.n2,c7⟩)) ?_ ?_ ?_);(exact results_cell_row (p:=2) (ty:=37) results45 _ _ (w.heap.size+1) 37 (blkA ⟨b.h,b.l,A4,b.n1,c4,q7,A7,b.n2,c7⟩) (0,0) _ rfl Q0.out underlying37 rfl (infoBlk _ (blkA_size (b:=⟨b.h,b.l,A4,b.n1,c4,q7,A7,b.n2,c7⟩) HOB.out.len)));(rfl))
 first|exact⟨_,N7++N4,rfl,⟨⟨b.h,b.l,A4,b.n1,c4,q7,A7,b.n2,c7⟩,rfl,HIS.out,_,HIS.out _ _ _ HEX.out HBX.out⟩,HBEL.out,HFR.out⟩|exact⟨N7++N4,⟨⟨b.h,b.l,A4,b.n1,c4,q7,A7,b.n2,c7⟩,rfl,HIS.out,_,HIS.out _ _ _ HEX.out HBX.out⟩,HBEL.out,fun a b hy=>HFR.out (a,b) hy⟩
theorem vceachB(l:List BlkM)(A:Option Addr)(n c:Nat)(w:World)(hl:l.length=n)(hn:n≤1000000)(hA:BlksIn w A l)(hf: ∀x∈l,midBlk x):Hands 44 #[.slice A n c, .func (.func 45) #[] #[]] w (RBlks (rsB l) n):=by
 unfold Hands
 have HL:=hD hl
 have HN6:Hid (n≤1000000):=by show _≤_;omega
 have HN63:Hid (n<9223372036854775808):=by show _<_;omega
 have HNM:Hid (n≤maxLen):=by show _≤_;unfold maxLen;omega
 have HAA:=hD hA
 have HFW:=hD hf
 have HFN:Hid (∀(u:World)(x:BlkM),EnvX w u []→BlkOk w x→midBlk x→Hands 45 #[blkV x] u (RBlk x.r)):=fun u x hu hx hm=>vccopyBlock x u (hx.up (EnvX.bel hu)) hm
 have E1:Hid (EnvX w w []):=EnvX.start w
 clear hl hn hA hf
 go_enter func44,ntmps44
 go_upto_region 1 with (fail)
 refine rgQ [0,1] [2,3] E1 rfl fun hw=>?_
 refine qo rfl hw ?_
 refine qv rfl (fun u hu=>len_op underlying22 HN63.out u rfl) hw ?_
 refine wpG_nil<|(hOp_fresh (R:=fun v N=> ∃g cur,v= .slice (some ⟨g,0,none⟩) 0 n∧N=[(g,oc cur 37)]∧cur.size=n*137) (M0:=[]) rfl rfl (fun _ h=>h) (fun u hu=>FAt_makeR2 elBlkC HN6.out rfl u) ?_)
 rintro _ _ ⟨gm,cm,rfl,rfl,hcm⟩ hf he2;intro K' hK';go_big_quiet_op;go_big_quiet_on
 have HCM:=hD hcm
 have HGM:=hD (hf _ (mS.2 rfl))
 clear hcm
 clear hf
 refine phE [3] [] he2 fun hw=>?_
 refine qo rfl hw ?_
 refine enP fun u5 EX4=>?_
 go_upto_region 2 with (fail)
 refine rgQ [0,1,2] [] EX4 rfl fun hw=>?_
 refine qo rfl hw ?_
 refine qv rfl (fun u hu=>len_op underlying22 HN63.out u rfl) hw ?_
 refine qo rfl hw ?_
 refine enP fun u8 EX7=>?_
 have HST:Hid (∃q Nx N,q.length=0∧FreshR 37 137 0 (q.map blkC).flatten (.slice (some ⟨gm,0,none⟩) 0 n) Nx∧(∀y∈Nx,w.heap.size≤y.1)∧(∀y∈N,w.heap.size≤y.1∧ ∀z∈Nx,y.1≠z.1)∧CopB l q N∧EnvX w u8 (Nx++N)):=⟨[],[(gm,oc cm 37)],[],rfl, .inl ⟨gm,n,cm,rfl,rfl,Nat.zero_le _,HNM.out,HCM.out,by rw[Nat.zero_mul,List.take_zero];rfl⟩,(fun y hy=>by cases mS.1 hy;exact HGM.out.1),(fun y hy=>by cases hy),(fun j hj=>absurd hj (Nat.not_lt_zero j)),EX7.out⟩
 clear EX7 E1 HCM HGM
 go_upto_region 3 with (fail)
 go_loopw [5,13] (fun v iv u=> ∃k:Nat,k≤n∧iv= .int .i64 (k:Int)∧Hid (∃q Nx N,q.length=k∧FreshR 37 137 k (q.map blkC).flatten v Nx∧(∀y∈Nx,w.heap.size≤y.1)∧(∀y∈N,w.heap.size≤y.1∧ ∀z∈Nx,y.1≠z.1)∧CopB l q N∧EnvX w u (Nx++N))) (fun _ iv _=>n- (intOf iv).toNat)
 case atStart=>exact⟨0,by omega,rfl,HST⟩
 case round=>
  obtain⟨k,hk,rfl,hinv⟩:=hrel
  obtain⟨q,Nx,N,hq,hF,hB,hN,hCP,hE⟩:=hinv.out
  obtain⟨A',c',rfl,hc1,hc2⟩:=FreshR.formR hF
  have EK:=hD hE
  have HCP:=hD hCP
  have HNN:=hD hN
  have HNX0:=hD hB
  have HF:=hD hF
  have HQ:=hD hq
  have HC1:=hD (And.intro hc1 hc2)
  clear hinv HST hE hCP hN hB hF hq hc1 hc2
  by_cases hlt:k<n
  · have C2:Hid (decide ((k:Int)<(n:Int))=true):=decide_eq_true (by omega)
    have HI:=hD hlt
    have hil:k<l.length:=by rw[HL.out];exact hlt
    obtain⟨ad,rfl,-,hld⟩:=HAA.out.loads hil
    have HLD:Hid (∀u,EnvX w u []→(loadVar 37 (ad.add (k*137))).run Tryz.prog u= .ok (blkV (l.getD k noBlkM)) u):=fun u hu=>(hld u hu).1
    have HTX:=hD (HAA.out.get hil)
    have HMX:=hD (HFW.out (l.getD k noBlkM) (by rw[gD,gE hil];exact List.getElem_mem hil))
    obtain⟨x,hx⟩: ∃x,l.getD k noBlkM=x:=⟨_,rfl⟩
    rw[hx]at HLD HTX HMX
    have HX:=hD hx
    have HFX:Hid (∀u,EnvX w u []→Hands 45 #[blkV x] u (RBlk x.r)):=fun u hu=>HFN.out u x hu HTX.out HMX.out
    have HFL:Hid ((q.map blkC).flatten.length=k*137):=by
     show _=_
     have hR:isRows 137 (q.map blkC):=fun y hy=>by
      obtain⟨t,ht,rfl⟩:=List.mem_map.1 hy
      obtain⟨j,hj,rfl⟩:=List.getElem_of_mem ht
      have h:=(HCP.out j hj).2 w _ _ EK.out (fun y hy=>mR hy)
      rw[gD,gE hj]at h
      exact blkC_len (BlkOk.h h).len
     rw[hR.flat_len,lM,HQ.out]
    clear hld hil hlt hx
    have HKx:Hid (lenH x.h):=HTX.out.h.len
    go_upto_region 3 with (fail)
    refine rgQ [0] [] EK rfl fun hw=>?_
    refine qv rfl (fun u hu=>ltZ_op u C2.out rfl rfl) hw ?_
    refine enP fun u23 EX22=>?_
    go_upto_region 4 with (fail)
    refine rgQ [0,1] [2,3] EX22 rfl fun hw=>?_
    refine qv rfl (fun u hu=>idxSl_op underlying22 aggBlk.size HI.out u rfl rfl) hw ?_
    refine qv rfl (fun u hu=>load_any_op u (HLD.out u (nl hu)) rfl) hw ?_
    refine wpG_nil<|qn rfl (new_blk _) fun g7 HGg7 he25=>?_
    change lexH _ _ _ _ _ _ ((g7,oc (blkA noBlkM) 37)::(Nx++N))
    refine(sh rfl HGg7 (infoBlk _ (blkA_size HKx.out)) (blk_sizes HKx.out) (blkA_one _) ?_)
    refine fun _=>enL fun u28 EX27=>?_
    go_upto_region 5 with (fail)
    refine rgQ [0,1,2] [3,4,5,6] EX27 rfl fun hw=>?_
    refine qw 2 hw ?_
    refine ql rfl mH HKx.out hw ?_
    refine wpG_nil<|(hOp_fresh (R:=RBlk x.r) (M0:=((g7,oc (blkA x) 37)::(Nx++N))) rfl rfl (fun _ h=>h) (fun u hu=>FAt_callV (f:=45) (args:= #[blkV x]) (caps:= #[]) (all:= #[blkV x]) rfl rfl rfl func45 rfl rfl u (HFX.out u (nl hu))) ?_)
    rintro _ Nb hF hf he30;intro K' hK';go_big_quiet_op;go_big_quiet_on
    obtain⟨t7,rfl,hkk,hv7⟩:=hF
    have hr7:t7.r=x.r:=hv7.choose_spec.1
    have hk7:KeptA Nb (fun u=>BlkOk u t7):=fun w0 u M hu hM=>(hkk w0 u M hu hM).2
    have HLT7:Hid (lenH t7.h):=hv7.choose_spec.2.h.len
    clear hkk hv7
    have HR7:=hD hr7
    have HK7:=hD hk7
    have HNb:Hid (∀y∈Nb,w.heap.size≤y.1∧ ∀z∈Nx,y.1≠z.1):=fun y hy=>⟨(hf y hy).1,fun z MEM e=>(hf y hy).2 z (mT (mL MEM)) e.symm⟩
    clear hr7 hk7
    clear hf
    change lexH _ _ _ _ _ _ (Nb++((g7,oc (blkA x) 37)::(Nx++N)))
    refine(hOp_fresh (R:=BuiltR 37 (blkC t7)) (M0:=(Nb++((g7,oc (blkA x) 37)::(Nx++N)))) rfl rfl (fun _ h=>h) (fun u hu=>FAt_buildR elBlkC (blkC_len HLT7.out) (blkC_one _) rfl u) ?_)
    rintro _ _ ⟨gb,rfl,rfl⟩ hf he31;intro K' hK';go_big_quiet_op;go_big_quiet_on
    clear hf
    change lexH _ _ _ _ _ _ ((gb,oc (blkC t7).toArray 37)::(Nb++((g7,oc (blkA x) 37)::(Nx++N))))
    refine(hOp_own (gd:=none) (R:=GrownR w 37 137 (k+1) ((q.map blkC).flatten++blkC t7) (N++Nb)) rfl rfl rfl rfl (fun u hu=>appX_op elBlkC (m:=1) (N++Nb) hu HFL.out (by rw[Nat.one_mul];exact(blkC_len HLT7.out)) (blkC_one _) HF.out (fun y MEM=>⟨(mT (mR (mT (mL MEM)))),HNX0.out y MEM⟩) (src_box (k:=0) hu mH (by rw[List.drop_zero,List.take_length])) (fun y hy=>(List.mem_append.1 hy).elim (fun MEM=>⟨(mT (mR (mT (mR MEM)))),fun z hz=>(HNN.out y MEM).2 z hz⟩) (fun MEM=>⟨(mT (mL MEM)),fun z hz=>(HNb.out y MEM).2 z hz⟩)) (by have:=HI.out;have:=HN6.out;omega) rfl rfl) ?_)
    rintro x9 M' ⟨N9,rfl,hF9,hn9⟩ he32;intro K' hK';go_big_quiet_op;go_big_quiet_on
    have HF9:=hD (And.intro hF9 hn9)
    clear hF9 hn9
    refine phE [6] [] he32 fun hw=>?_
    refine qo rfl hw ?_
    refine enP fun u35 EX34=>?_
    have HNX:Hid (∃q Nx N,q.length=(k+1)∧FreshR 37 137 (k+1) (q.map blkC).flatten x9 Nx∧(∀y∈Nx,w.heap.size≤y.1)∧(∀y∈N,w.heap.size≤y.1∧ ∀z∈Nx,y.1≠z.1)∧CopB l q N∧EnvX w u35 (Nx++N)):=⟨q++[t7],N9,N++Nb,by rw[lA,HQ.out];rfl,by rw[List.map_append,List.flatten_append,List.map_singleton,List.flatten_singleton];exact HF9.out.1,(fun y hy=>(HF9.out.2 y hy).1),(fun y hy=>⟨(List.mem_append.1 hy).elim (fun h=>(HNN.out y h).1) (fun h=>(HNb.out y h).1),fun z hz=>(HF9.out.2 z hz).2 y hy⟩),HCP.out.step (by rw[HR7.out,HQ.out,HX.out]) (HK7.out.mono (fun y hy=>mR hy)) (fun y hy=>mL hy),EX34.out⟩
    have hii:=HI.out
    have hn:=HN63.out
    go_wp2
    go_roundw
    case rel=>exact⟨k+1,by omega,by go_num,HNX⟩
    case measure=>simp[intOf];omega
  · obtain rfl:k=n:=by omega
    have C2:Hid (decide ((k:Int)<(k:Int))=false):=decide_eq_false (by omega)
    have HD:=hD (HCP.out.done (by rw[HQ.out,HL.out]))
    go_upto_region 3 with (fail)
    refine rgQ [0] [] EK rfl fun hw=>?_
    refine qv rfl (fun u hu=>ltZ_op u C2.out rfl rfl) hw ?_
    refine enP fun u303 EX302=>?_
    go_upto_region 7 with (fail)
    refine rgQ [0,1] [] EX302 rfl fun hw=>?_
    refine qw 2 hw ?_
    refine enP fun u306 EX305=>?_
    have HBE:=hD (EnvX.bel EX305.out)
    have HBX:=hD (fun(y:Nat × Obj)(hy:y∈Nx++N)=>EnvX.box EX305.out _ _ hy)
    have HLO:Hid (∀y∈Nx++N,w.heap.size≤y.1∧u306.heap[y.1]?=some y.2):=fun y hy=>⟨(List.mem_append.1 hy).elim (fun h=>HNX0.out y h) (fun h=>(HNN.out y h).1),HBX.out y hy⟩
    have HRX:Hid (RBlks (rsB l) k (.slice A' k c') (Nx++N)):=⟨q,Nx,N,rfl,HQ.out,HD.out.1,HF.out,(fun y hy z hz=>(HNN.out y hy).2 z hz),HD.out.2⟩
    go_wp2
    go_returns
    first|exact⟨_,_,rfl,HRX.out,HBE.out,HLO.out⟩|exact⟨_,HRX.out,HBE.out,fun a b hy=>HLO.out (a,b) hy⟩
def PushR(M:Boxes)(r:TipR)(e:Nat)(t:TipM)(N Nc:Boxes):Prop:=(∃v,IsTip r t v)∧(e=0→KeptA N (fun v=>IsBlk r.b t.b v∧TotsIn v v.heap.size t.A3 t.p)∧CoB t.c t.A4 Nc∧ ∀y∈N,∀z∈M,z.1≠y.1)
theorem push_turn {f:FuncId} {args:Array Value} {u w0:World} {M:Boxes} {r:TipR} {e:Nat} (h:Calls Tryz.prog f args u fun en w'=>(∃t:TipM,en= .returned (.tuple #[tipV t, .int .i64 (e:Int)])∧IsTip r t w'∧(e=0→SepT r t u.heap.size w'))∧Below u.heap.size u w') (hu:EnvX w0 u M):
  Calls Tryz.prog f args u fun en w'=> ∃x M',en= .returned x∧EnvX w0 w' M'∧ ∃t N Nc,x= .tuple #[tipV t, .int .i64 (e:Int)]∧M'=N++(Nc++M)∧PushR M r e t N Nc∧ ∀y∈N,w0.heap.size≤y.1:=
 h.mono fun en w'⟨⟨t,he,hi,hs⟩,hb⟩=>by
  have hE:=EnvX.below hu hb
  by_cases h0:e=0
  · obtain⟨N,Nc,hk,hc,hN,hNc⟩:=hs h0
    refine⟨_,N++(Nc++M),he,⟨hE.bel,fun g o hm=>?_⟩,t,N,Nc,rfl,rfl,⟨⟨_,hi⟩,fun _=>⟨hk,hc,fun y hy z hz e=>?_⟩⟩,fun y hy=>Nat.le_trans (EnvX.bel hu).size (hN y hy).1⟩
    · rcases List.mem_append.1 hm with h|h
      · exact(hN (g,o) h).2
      · rcases List.mem_append.1 h with h|h
        · exact hNc (g,o) h
        · exact hE.box g o h
    · have h1:=hu.lt (g:=z.1) (o:=z.2) hz
      have h2:=(hN y hy).1
      omega
  · exact⟨_,M,he,hE,t,[],[],rfl,rfl,⟨⟨_,hi⟩,fun h=>absurd h h0⟩,fun y hy=>by cases hy⟩
theorem sep_tip{r:TipR}{t:TipM}{N Nc:Boxes}(hv: ∃v,IsTip r t v)(hk:KeptA N (fun v=>IsBlk r.b t.b v∧TotsIn v v.heap.size t.A3 t.p))(hc:CoB t.c t.A4 Nc):KeptA (N++Nc) (IsTip r t):=fun w0 u M hu hM=>by
 obtain⟨v,hr,ok⟩:=hv
 have k:=hk w0 u M hu (fun y hy=>hM y (mL hy))
 exact⟨hr,⟨k.1.2,ok.l3,ok.b3,ok.o3,k.2,ok.l4,ok.b4,ok.o4,CoB.read hc hu (fun y hy=>hM y (mR hy))⟩⟩
theorem CoB.apartB{q:List CoinR}{A:Option Addr}{M:Boxes}{w0 u:World}(hq:okP q)(hu:EnvX w0 u M): ∀(BS:Boxes){N:Boxes},CoB q A N→(∀y∈N,y∈M)→(∀y∈BS,y∈M∧ ∃z,y.2=oc (tipA z) 41)→ ∃N',CoB q A N'∧ ∀y∈N',y∈N∧ ∀x∈BS,y.1≠x.1
 |[],N,h,_,_=>⟨N,h,fun y hy=>⟨hy,fun x hx=>by cases hx⟩⟩
 |(g,o)::BS,N,h,hN,hB=>by
  obtain⟨h1,z,h2⟩:=hB (g,o) mH
  have h2':o=oc (tipA z) 41:=h2
  subst h2'
  obtain⟨n1,c1,k1⟩:=CoB.apart h hq hu hN h1 (tip_noint2 z)
  obtain⟨n2,c2,k2⟩:=CoB.apartB hq hu BS c1 (fun y hy=>hN y (k1 y hy).1) (fun y hy=>hB y (mT hy))
  refine⟨n2,c2,fun y hy=>⟨(k1 y (k2 y hy).1).1,fun x hx=>?_⟩⟩
  rcases List.mem_cons.1 hx with h|h
  · rw[h];exact(k1 y (k2 y hy).1).2
  · exact(k2 y hy).2 x h
theorem env_add{w u:World}{M BS:Boxes}(h:EnvX w u M)(hB: ∀y∈BS,w.heap[y.1]?=some y.2):EnvX w u (BS++M):=⟨h.bel,fun g o hm=>by
 rcases List.mem_append.1 hm with hb|hb
 · have h1:=hB (g,o) hb
   exact(h.bel.block g (Array.getElem?_eq_some_iff.1 h1).1).trans h1
 · exact h.box g o hb⟩
theorem rest_pick{M N:Boxes}{g1 G:Nat}{o1:Obj}(h1:(g1,o1)∈M)(n1:g1≠G)(hN: ∀y∈N,y∈M∧y.1≠G): ∀y∈(g1,o1)::N,y∈M∧y.1≠G:=fun y hy=>by
 rcases List.mem_cons.1 hy with h|hy
 · subst h;exact⟨h1,n1⟩
 · exact hN y hy
theorem RowOk.rest{w:World}{m:RowM}(h:RowOk w m)(hn:1≤m.n):RowOk w ⟨m.l.drop 1,cutX 137 m.A 1 m.c,m.n- 1,m.c- 1⟩:=by
 have hb:=h.b
 have hl:=h.l
 refine⟨by show (m.l.drop 1).length=m.n- 1;rw[List.length_drop,hl],⟨by show m.n- 1≤m.c- 1;omega,by show m.c- 1≤maxLen;omega⟩,⟨?_,fun t ht=>h.m.each t (List.mem_of_mem_drop ht)⟩⟩
 have hR:=rowsBk h.m
 have e:((m.l.drop 1).map blkC).flatten=(m.l.map blkC).flatten.drop (1*137):=by rw[List.map_drop,hR.flat_drop]
 show CellsIn w w.heap.size (cutX 137 m.A 1 m.c) ((m.l.drop 1).map blkC).flatten
 rw[e]
 refine h.m.cells.drop 137 1 m.c ?_
 rcases Nat.lt_or_ge 1 m.c with h1|h1
 · exact .inl h1
 · refine .inr ?_
   rw[h.m.flat,hl]
   exact Nat.mul_le_mul (by omega) (Nat.le_refl _)
theorem row_head{m:RowM}(hn:1≤m.l.length):m.r=(m.l.getD 0 noBlkM).r::(RowM.r ⟨m.l.drop 1,none,0,0⟩):=by
 obtain⟨l,A,n,c⟩:=m
 cases l with
 |nil=>exact absurd hn (Nat.not_succ_le_zero 0)
 |cons b r=>rfl
theorem vcpushAll (b0:BlkR) (t:TipM) (m:RowM) (BS N0:Boxes) (w:World) (h0:(checkC [b0]).2=0) (hk:KeptA N0 (IsTip (checkC [b0]).1 t)) (hN0: ∀y∈N0,(∀x∈BS,y.1≠x.1)∧w.heap[y.1]?=some y.2) (hg: ∀y∈BS,w.heap[y.1]?=some y.2∧ ∃z,y.2=oc (tipA z) 41) (hm:RowOk w m) (mm:midRowR (b0::m.r)) (ht:Tables w):
  Calls Tryz.prog 40 #[tipV t,rowV m] w fun e w'=>(∃(u:TipM)(N:Boxes),e= .returned (.tuple #[tipV u, .int .i64 ((checkC (b0::m.r)).2:Int)])∧KeptA N (IsTip (checkC (b0::m.r)).1 u)∧ ∀y∈N,(∀x∈BS,y.1≠x.1)∧w'.heap[y.1]?=some y.2)∧Below w.heap.size w w':=by
 have HM:=hD hm
 have HMM:=hD mm
 have HT:=hD ht
 have HLL:Hid (m.l.length=m.n):=hm.l
 have HN63:Hid (m.n<9223372036854775808):=hm.n63
 have HRL:Hid ((b0::m.r).length=m.n+1):=by show _=_;rw[List.length_cons,m.r_len,hm.l]
 have HBS:=hD hg
 have HBL:Hid (∀y∈BS,y.1<w.heap.size):=fun y hy=>(Array.getElem?_eq_some_iff.1 (hg y hy).1).1
 have HLE:Hid (w.heap.size≤w.heap.size+1):=by show _≤_;omega
 have HNE:Hid (w.heap.size≠w.heap.size+1∧w.heap.size+1≠w.heap.size):=by show _∧_;omega
 have HPS:Hid (∀(u:World)(s:TipM)(x:BlkM)(r2:TipR)(e2:Nat),EnvX w u []→TipOk u s→midTip s→BlkOk u x→midBlk x→pushK s.r x.r=(r2,e2)→Calls Tryz.prog 36 #[tipV s,blkV x] u fun e w'=>(∃q:TipM,e= .returned (.tuple #[tipV q, .int .i64 (e2:Int)])∧IsTip r2 q w'∧(e2=0→SepT r2 q u.heap.size w'))∧Below u.heap.size u w'):=fun u s x r2 e2 hu h1 h2 h3 h4 h5=>by
  have h:=vbpush_sep s x u h1 h2 h3 h4 (ht.below (EnvX.bel hu))
  rw[h5]at h
  exact h
 have HLT0:Hid (lenH t.b.h):=(hk w w N0 ⟨Below.refl _ _,fun g' o hm=>(hN0 (g',o) hm).2⟩ (fun y hy=>hy)).2.b.h.len
 have E00:EnvX w w N0:=⟨Below.refl _ _,fun g' o hm=>(hN0 (g',o) hm).2⟩
 have hlt0: ∀y∈N0,y.1<w.heap.size:=fun y hy=>Array.getElem?_eq_some_iff.1 (hN0 y hy).2|>.1
 have E1:Hid (EnvX w ((w.alloc (.cells (tipA t) 41)).alloc (.cells (tipA noTipM) 41)) ((w.heap.size,oc (tipA t) 41)::(w.heap.size+1,oc (tipA noTipM) 41)::N0)):=EnvX.sub (E00.two _ _) (fun y hy=>by
    rcases List.mem_cons.1 hy with h|hy
    · rw[h];exact mT mH
    · rcases List.mem_cons.1 hy with h|hy
      · rw[h];exact mH
      · exact mT (mT hy))
 have HS0:Hid ((checkC ((b0::m.r).take (0+1))).2=0∧KeptA N0 (IsTip (checkC ((b0::m.r).take (0+1))).1 t)∧(∀y∈N0,y.1≠w.heap.size∧y.1≠w.heap.size+1∧ ∀x∈BS,y.1≠x.1)):=⟨h0,hk,fun y hy=>⟨by have:=hlt0 y hy;omega,by have:=hlt0 y hy;omega,(hN0 y hy).1⟩⟩
 clear h0 hk hN0 hg hm mm ht E00 hlt0
 unfold tipV rowV
 go_enter func40,ntmps40
 go_wp2_with fail
 refine wp_scope_straight ?_
 go_upto_region 1 with (fail)
 rw[←zero_tipA]
 generalize (w.alloc (.cells (tipA t) 41)).alloc (.cells (tipA noTipM) 41)=W at *
 refine rgQ [0] [] E1 rfl fun hw=>?_
 refine qo rfl hw ?_
 refine enP fun u3 EX2=>?_
 go_wp2_with fail
 refine wp_label ?_
 go_upto_region 2 with (fail)
 refine rgQ [0,1,2] [] EX2 rfl fun hw=>?_
 refine qo rfl hw ?_
 refine qv rfl (fun u hu=>len_op underlying22 HN63.out u rfl) hw ?_
 refine qo rfl hw ?_
 refine enP fun u6 EX5=>?_
 have HST:Hid (∃s N,(checkC ((b0::m.r).take (0+1))).2=0∧KeptA N (IsTip (checkC ((b0::m.r).take (0+1))).1 s)∧lenH s.b.h∧(∀y∈N,y.1≠w.heap.size∧y.1≠w.heap.size+1∧ ∀x∈BS,y.1≠x.1)∧EnvX w u6 (((w.heap.size,oc (tipA s) 41)::((w.heap.size+1,oc (tipA noTipM) 41)::N)))):=⟨t,N0,HS0.out.1,HS0.out.2.1,HLT0.out,HS0.out.2.2,EX5.out⟩
 clear EX5 HS0 HLT0 E1
 go_upto_region 3 with (fail)
 go_loopw [6,13] (fun fv iv u=> ∃k:Nat,k≤m.n∧fv= .int .i64 0∧iv= .int .i64 (k:Int)∧Hid (∃s N,(checkC ((b0::m.r).take (k+1))).2=0∧KeptA N (IsTip (checkC ((b0::m.r).take (k+1))).1 s)∧lenH s.b.h∧(∀y∈N,y.1≠w.heap.size∧y.1≠w.heap.size+1∧ ∀x∈BS,y.1≠x.1)∧EnvX w u (((w.heap.size,oc (tipA s) 41)::((w.heap.size+1,oc (tipA noTipM) 41)::N))))) (fun _ iv _=>m.n- (intOf iv).toNat)
 case atStart=>exact⟨0,by omega,rfl,rfl,HST⟩
 case round =>
  obtain⟨k,hk,rfl,rfl,hinv⟩:=hrel
  obtain⟨s,N,hs0,hsk,hsl,hsn,hE⟩:=hinv.out
  have EK:=hD hE
  have HS0:=hD hs0
  have HSK:=hD hsk
  have HLS:Hid (lenH s.b.h):=hsl
  have HSN:=hD hsn
  clear hinv HST hE hs0 hsk hsl hsn
  by_cases hlt:k<m.n
  · have C2 :Hid (decide ((k:Int)<(m.n:Int))=true):=decide_eq_true (by omega)
    have HI:=hD hlt
    have hil:k<m.l.length:=by rw[HLL.out];exact hlt
    obtain⟨ad,hA,-,hld⟩:=HM.out.m.loads hil
    have HAD:=hD hA
    have HLD:Hid (∀u,EnvX w u []→(loadVar 37 (ad.add (k*137))).run Tryz.prog u= .ok (blkV (m.l.getD k noBlkM)) u):=fun u hu=>(hld u hu).1
    have HTX:=hD (HM.out.m.get hil)
    have hat:atB (b0::m.r) (k+1)=(m.l.getD k noBlkM).r:=by show (m.r).getD k noBlk=_;exact rsB_at hil
    have HMX:Hid (midBlk (m.l.getD k noBlkM)):=by
      show midBlk _
      rw[midBlk_iff,←hat]
      exact HMM.out.at (by rw[HRL.out];omega)
    obtain⟨x,hx⟩: ∃x,m.l.getD k noBlkM=x:=⟨_,rfl⟩
    rw[hx]at HLD HTX HMX hat
    have HKx:Hid (lenH x.h):=HTX.out.h.len
    obtain⟨rk,hrk⟩: ∃rk,(checkC ((b0::m.r).take (k+1))).1=rk:=⟨_,rfl⟩
    rw[hrk]at HSK
    obtain⟨r2,e2,hp⟩: ∃r2 e2,pushK rk x.r=(r2,e2):=⟨_,_,rfl⟩
    have hck:checkC ((b0::m.r).take (k+1+1))=if e2=0 then (r2,e2)else (noTip,e2):=by
      rw[check_take (by omega) (by rw[HRL.out];omega),hat]
      unfold stepC
      rw[if_pos HS0.out,hrk,hp]
    have HCK:=hD hck
    have HMS:Hid (midTip s):=check_mid (l:=(b0::m.r).take (k+1)) (HMM.out.take _) (by rw[hrk];exact HSK.out w _ _ EK.out (fun y hy=>mT (mT hy)))
    have HSR:Hid (s.r=rk):=(HSK.out w _ _ EK.out (fun y hy=>mT (mT hy))).1
    have HPC:Hid (∀u,EnvX w u []→TipOk u s→Calls Tryz.prog 36 #[tipV s,blkV x] u fun e w'=>(∃q:TipM,e= .returned (.tuple #[tipV q, .int .i64 (e2:Int)])∧IsTip r2 q w'∧(e2=0→SepT r2 q u.heap.size w'))∧Below u.heap.size u w'):=fun u hu hs=>HPS.out u s x r2 e2 hu hs HMS.out (HTX.out.up (EnvX.bel hu)) HMX.out (by rw[HSR.out];exact hp)
    clear hld hil hlt hx hat hrk hp hck hA
    go_upto_region 3 with (fail)
    refine rgQ [0] [] EK rfl fun hw=>?_
    refine qv rfl (fun u hu=>ltZ_op u C2.out rfl rfl) hw ?_
    refine enP fun u23 EX22=>?_
    go_upto_region 4 with (fail)
    refine rgQ [0,1] [2,3] EX22 rfl fun hw=>?_
    refine qv (v:= .pointer (some (ad.add (k*137)))) rfl (fun u hu=>by rw[HAD.out];exact idxSl_op (i:=k) underlying22 aggBlk.size HI.out u rfl rfl) hw ?_
    refine qv rfl (fun u hu=>load_any_op u (HLD.out u (nl hu)) rfl) hw ?_
    refine wpG_nil<|qn rfl (new_blk _) fun g8 HGg8 he25=>?_
    change lexH _ _ _ _ _ _ ((g8,oc (blkA noBlkM) 37)::((w.heap.size,oc (tipA s) 41)::((w.heap.size+1,oc (tipA noTipM) 41)::N)))
    refine(sh rfl HGg8 (infoBlk _ (blkA_size HKx.out)) (blk_sizes HKx.out) (blkA_one _) ?_)
    refine fun _=>enL fun u28 EX27=>?_
    go_upto_region 5 with (fail)
    refine rgQ [0,1] [2,3,4,5,6,7,8] EX27 rfl fun hw=>?_
    refine ql rfl (mT mH) HLS.out hw ?_
    refine ql rfl mH HKx.out hw ?_
    refine wpG_nil<|(hOp_turn (gd:=none) (R:=fun xv M'=> ∃u2 N2 Nc,xv= .tuple #[.agg (tipA u2), .int .i64 (e2:Int)]∧M'=N2++(Nc++((g8,oc (blkA x) 37)::((w.heap.size,oc (tipA s) 41)::((w.heap.size+1,oc (tipA noTipM) 41)::N))))∧PushR ((g8,oc (blkA x) 37)::((w.heap.size,oc (tipA s) 41)::((w.heap.size+1,oc (tipA noTipM) 41)::N))) r2 e2 u2 N2 Nc∧ ∀y∈N2,w.heap.size≤y.1) rfl rfl rfl rfl (fun u hu=>OUpon_call (fid:=36) (xs:= #[.tmp 18, .tmp 19]) (args:= #[tipV s,blkV x]) rfl func36 rfl rfl u (push_turn (HPC.out u (nl hu) (HSK.out w u _ hu (fun y MEM=>(mT (mT (mT MEM))))).2) hu)) ?_)
    rintro xv_ M'_ ⟨u2,N2,Nc,rfl,rfl,hpr,hpn⟩ he30;intro K' hK';go_big_quiet_op;go_big_quiet_on
    have HPR:=hD hpr
    have HN2:=hD hpn
    have HK2:Hid (lenH u2.b.h):=by obtain⟨v,hv⟩:=HPR.out.1;exact hv.2.b.h.len
    clear hpr hpn
    refine phE [3,4,5] [6,7,8] he30 fun hw=>?_
    refine qw 3 hw ?_
    refine wpG_nil<|qn rfl (new_tip _) fun g9 HGg9 he32=>?_
    change lexH _ _ _ _ _ _ ((g9,oc (tipA noTipM) 41)::(N2++(Nc++((g8,oc (blkA x) 37)::((w.heap.size,oc (tipA s) 41)::((w.heap.size+1,oc (tipA noTipM) 41)::N))))))
    refine(sh rfl HGg9 (infoTip _ (tipA_size HK2.out)) (tip_sizes HK2.out) (tipA_one _) ?_)
    intro he33
    refine phE [8] [] he33 fun hw=>?_
    refine qo rfl hw ?_
    refine enP fun u36 EX35=>?_
    go_upto_region 6 with (fail)
    refine rgQ [0] [] EX35 rfl fun hw=>?_
    refine qo rfl hw ?_
    refine enP fun u39 EX38=>?_
    cases e2 with
    | succ e2=>
      have D8:Hid (decide (((e2+1:Nat):Int)=0)=false):=decide_eq_false (by omega)
      have HF:Hid (checkC (b0::m.r)=(noTip,e2+1)):=by
        show _=_
        have hc:=HCK.out
        rw[if_neg (Nat.succ_ne_zero e2)]at hc
        rw[check_bad (l:=(b0::m.r)) (k:=k+1+1) (by omega) (by rw[HRL.out];have:=HI.out;omega) (by rw[hc];exact Nat.succ_ne_zero e2),hc]
      go_upto_region 8 with (fail)
      refine rgQ [0,1] [] EX38 rfl fun hw=>?_
      refine qv rfl (fun u hu=>eqErr_op u D8.out rfl rfl) hw ?_
      refine qo rfl hw ?_
      refine enP fun u42 EX41=>?_
      have E7:Hid (EnvX w u42 [(w.heap.size,oc (tipA s) 41),(w.heap.size+1,oc (tipA noTipM) 41)]):=EnvX.sub EX41.out (fun y hy=>by
        rcases List.mem_cons.1 hy with h|hy
        · rw[h];exact(mT (mR (mR (mT mH))))
        · cases mS.1 hy;exact(mT (mR (mR (mT (mT mH))))))
      clear EX41
      go_upto_region 7 with (fail)
      refine rgQ [0,1] [2,3] E7 rfl fun hw=>?_
      refine qv (v:= .agg (tipA noTipM)) rfl (fun u hu=>buildA_op u built_tip0) hw ?_
      refine qo rfl hw ?_
      refine wpG_nil<|(hOp_store rfl (w.heap.size) (tipA noTipM) rfl rfl (Nat.le_refl _) 41 ((tipA s)) mH (infoTip _ (tipA_size (t:=noTipM) len_no)) ((tipA_size HLS.out).trans (tipA_size (t:=noTipM) len_no).symm) (tipA_one _) [(w.heap.size,oc (tipA noTipM) 41),(w.heap.size+1,oc (tipA noTipM) 41)] (mA ⟨.inl rfl,fun y hy=> .inr (by cases mS.1 hy;exact⟨mT mH,HNE.out.2⟩)⟩) ?_)
      intro he84
      refine phE [3] [] he84 fun hw=>?_
      refine qo rfl hw ?_
      refine enP fun u87 EX86=>?_
      go_upto_region 11 with (fail)
      refine rgQ [0,1] [2,3] EX86 rfl fun hw=>?_
      refine ql rfl mH (show lenH noTipM.b.h from len_no) hw ?_
      refine qo rfl hw ?_
      refine wpG_nil<|(hOp_store rfl (w.heap.size+1) (tipA noTipM) rfl rfl HLE.out 41 ((tipA noTipM)) (mT mH) (infoTip _ (tipA_size (show lenH noTipM.b.h from len_no))) ((tipA_size (t:=noTipM) len_no).trans (tipA_size (show lenH noTipM.b.h from len_no)).symm) (tipA_one _) [(w.heap.size+1,oc (tipA noTipM) 41)] (mA ⟨.inl rfl,fun y hy=>by cases hy⟩) ?_)
      intro he89
      refine phE [3] [] he89 fun hw=>?_
      refine qo rfl hw ?_
      refine enP fun u92 EX91=>?_
      have Q0:=hD (EnvX.box EX91.out _ _ mH)
      have HBEL:=hD EX91.out.bel
      clear EX91
      go_wp2_with (fail)
      try rw[Exit.noGoto_ret]
      go_wp2_with ((with_reducible refine bodyPost_ret (v:= .tuple #[.agg (tipA noTipM), .int .i64 ((e2+1:Nat):Int)]) ?_ ?_ ?_);(exact results_row_slot (p:=4) (q:=5) (ty:=41) results40 _ _ (w.heap.size+1) 41 (tipA noTipM) (0,0) _ rfl _ rfl Q0.out underlying41 rfl (infoTip _ (tipA_size (show lenH noTipM.b.h from len_no))));(rfl))
      first|exact⟨⟨noTipM,[],by rw[HF.out],by rw[HF.out];exact fun _ _ _ _ _=>⟨rfl,TipOk.no _⟩,(fun y hy=>by cases hy)⟩,HBEL.out⟩|exact⟨⟨noTipM,[],by rw[HF.out]<;>first|rfl|exact⟨rfl,rfl⟩,by rw[HF.out];exact fun _ _ _ _ _=>⟨rfl,TipOk.no _⟩,(fun a b hy=>by cases hy)⟩,HBEL.out⟩
    | zero=>
      have D8:Hid (decide (((0:Nat):Int)=0)=true):=decide_eq_true (by omega)
      go_upto_region 8 with (fail)
      refine rgQ [0,1] [] EX38 rfl fun hw=>?_
      refine qv rfl (fun u hu=>eqErr_op u D8.out rfl rfl) hw ?_
      refine qo rfl hw ?_
      refine enP fun u42 EX41=>?_
      have HQ:=hD (HPR.out.2 rfl)
      have hEA:EnvX w u42 (BS++((g9,oc (tipA u2) 41)::(N2++(Nc++((g8,oc (blkA x) 37)::((w.heap.size,oc (tipA s) 41)::((w.heap.size+1,oc (tipA noTipM) 41)::N))))))):=env_add EX41.out (fun y hy=>(HBS.out y hy).1)
      obtain⟨N9,hb9,hn9⟩:=CoB.apartB (by obtain⟨v,hv⟩:=HPR.out.1;exact hv.2.o4) hEA ((w.heap.size,oc (tipA s) 41)::(w.heap.size+1,oc (tipA noTipM) 41)::BS) HQ.out.2.1 (fun y MEM=>mR (mT (mR (mL MEM)))) (fun y hy=>by
        rcases List.mem_cons.1 hy with h|hy
        · rw[h];exact⟨mR (mT (mR (mR (mT mH)))),_,rfl⟩
        · rcases List.mem_cons.1 hy with h|hy
          · rw[h];exact⟨mR (mT (mR (mR (mT (mT mH))))),_,rfl⟩
          · exact⟨mL hy,(HBS.out y hy).2⟩)
      have HQK:Hid (KeptA (N2++N9) (IsTip r2 u2)):=sep_tip HPR.out.1 HQ.out.1 hb9
      have HNW:Hid (∀y∈N2,w.heap.size≤y.1):=HN2.out
      have HQN:Hid (∀y∈N2++N9,y.1≠w.heap.size∧y.1≠w.heap.size+1∧ ∀x∈BS,y.1≠x.1):=fun y hy=>by
        rcases List.mem_append.1 hy with h|h
        · exact⟨fun e=>HQ.out.2.2 y h _ (mT mH) e.symm,fun e=>HQ.out.2.2 y h _ (mT (mT mH)) e.symm,fun x hx e=>by have h1:=HNW.out y h;have h2:=HBL.out x hx;omega⟩
        · exact⟨(hn9 y h).2 _ mH,(hn9 y h).2 _ (mT mH),fun x hx=>(hn9 y h).2 x (mT (mT hx))⟩
      have HQM:Hid (∀y∈N2++N9,y∈((g9,oc (tipA u2) 41)::(N2++(Nc++((g8,oc (blkA x) 37)::((w.heap.size,oc (tipA s) 41)::((w.heap.size+1,oc (tipA noTipM) 41)::N))))))):=fun y hy=>by
        rcases List.mem_append.1 hy with MEM|h
        · exact(mT (mL MEM))
        · have MEM:=(hn9 y h).1
          exact(mT (mR (mL MEM)))
      obtain⟨N3,hN3⟩: ∃N3,N2++N9=N3:=⟨_,rfl⟩
      rw[hN3]at HQK HQN HQM
      have E9:Hid (EnvX w u42 ((g9,oc (tipA u2) 41)::((w.heap.size,oc (tipA s) 41)::((w.heap.size+1,oc (tipA noTipM) 41)::N3)))):=EnvX.sub EX41.out (fun y hy=>by
        rcases List.mem_cons.1 hy with h|hy
        · rw[h];exact mH
        · rcases List.mem_cons.1 hy with h|hy
          · rw[h];exact(mT (mR (mR (mT mH))))
          · rcases List.mem_cons.1 hy with h|hy
            · rw[h];exact(mT (mR (mR (mT (mT mH)))))
            · exact HQM.out y hy)
      clear hb9 hn9 hN3 HQM HQ HPR EX41 hEA HN2 HNW
      have HRS:Hid (∀y∈((w.heap.size+1,oc (tipA noTipM) 41)::N3),y∈((g9,oc (tipA u2) 41)::((w.heap.size,oc (tipA s) 41)::((w.heap.size+1,oc (tipA noTipM) 41)::N3)))∧y.1≠w.heap.size):=rest_pick (mT (mT mH)) HNE.out.2 (fun y MEM=>⟨(mT (mT (mT MEM))),(HQN.out y MEM).1⟩)
      go_upto_region 9 with (fail)
      refine rgQ [0] [1] E9 rfl fun hw=>?_
      refine ql rfl mH HK2.out hw ?_
      refine wpG_nil<|(hOp_store rfl (w.heap.size) (tipA u2) rfl rfl (Nat.le_refl _) 41 ((tipA s)) (mT mH) (infoTip _ (tipA_size HK2.out)) ((tipA_size HLS.out).trans (tipA_size HK2.out).symm) (tipA_one _) ((w.heap.size,oc (tipA u2) 41)::((w.heap.size+1,oc (tipA noTipM) 41)::N3)) (mA ⟨.inl rfl,fun y hy=> .inr (HRS.out y hy)⟩) ?_)
      refine fun _=>enL fun u86 EX85=>?_
      have HNX:Hid (∃s N,(checkC ((b0::m.r).take (k+1+1))).2=0∧KeptA N (IsTip (checkC ((b0::m.r).take (k+1+1))).1 s)∧lenH s.b.h∧(∀y∈N,y.1≠w.heap.size∧y.1≠w.heap.size+1∧ ∀x∈BS,y.1≠x.1)∧EnvX w u86 (((w.heap.size,oc (tipA s) 41)::((w.heap.size+1,oc (tipA noTipM) 41)::N)))):=⟨u2,N3,by rw[HCK.out,if_pos rfl],by rw[HCK.out,if_pos rfl];exact HQK.out,HK2.out,HQN.out,EX85.out⟩
      have hii:=HI.out
      have hn:=HN63.out
      go_wp2
      go_roundw
      case rel=>exact⟨k+1,by omega,rfl,by go_num,HNX⟩
      case measure=>simp[intOf];omega
  · obtain rfl:k=m.n:=by omega
    have C2:Hid (decide ((m.n:Int)<(m.n:Int))=false):=decide_eq_false (by omega)
    have hw:(b0::m.r).take (m.n+1)=(b0::m.r):=tL (by rw[HRL.out];exact Nat.le_refl _)
    have HF:Hid (checkC (b0::m.r)=((checkC (b0::m.r)).1,0)):=by
      have h:=HS0.out
      rw[hw]at h
      show _=_
      rw[←h]
    rw[hw]at HSK
    clear hw
    go_upto_region 3 with (fail)
    refine rgQ [0] [] EK rfl fun hw=>?_
    refine qv rfl (fun u hu=>ltZ_op u C2.out rfl rfl) hw ?_
    refine enP fun u303 EX302=>?_
    go_upto_region 11 with (fail)
    refine rgQ [0,1] [2,3] EX302 rfl fun hw=>?_
    refine ql rfl mH HLS.out hw ?_
    refine qo rfl hw ?_
    refine wpG_nil<|(hOp_store rfl (w.heap.size+1) (tipA s) rfl rfl HLE.out 41 ((tipA noTipM)) (mT mH) (infoTip _ (tipA_size HLS.out)) ((tipA_size (t:=noTipM) len_no).trans (tipA_size HLS.out).symm) (tipA_one _) ((w.heap.size+1,oc (tipA s) 41)::N) (mA ⟨.inl rfl,fun y hy=> .inr ⟨(mT (mT hy)),(HSN.out y hy).2.1⟩⟩) ?_)
    intro he305
    refine phE [3] [] he305 fun hw=>?_
    refine qo rfl hw ?_
    refine enP fun u308 EX307=>?_
    have HFB:Hid (∀y∈N,(∀x∈BS,y.1≠x.1)∧u308.heap[y.1]?=some y.2):=fun y hy=>⟨(HSN.out y hy).2.2,EnvX.box EX307.out _ _ (mT hy)⟩
    have Q0:=hD (EnvX.box EX307.out _ _ mH)
    have HBEL:=hD EX307.out.bel
    clear EX307
    go_wp2_with (fail)
    try rw[Exit.noGoto_ret]
    go_wp2_with ((with_reducible refine bodyPost_ret (v:= .tuple #[.agg (tipA s), .int .i64 0]) ?_ ?_ ?_);(exact results_row_slot (p:=4) (q:=5) (ty:=41) results40 _ _ (w.heap.size+1) 41 (tipA s) (0,0) _ rfl _ rfl Q0.out underlying41 rfl (infoTip _ (tipA_size HLS.out)));(rfl))
    first|exact⟨⟨s,N,by rw[HF.out]<;>rfl,by rw[HF.out];exact HSK.out,HFB.out⟩,HBEL.out⟩|exact⟨⟨s,N,by rw[HF.out]<;>first|rfl|exact⟨rfl,rfl⟩,by rw[HF.out];exact HSK.out,fun a b hy=>HFB.out (a,b) hy⟩,HBEL.out⟩
end Go.Proofs.YtojmeodoenkapaaGreatDoor
