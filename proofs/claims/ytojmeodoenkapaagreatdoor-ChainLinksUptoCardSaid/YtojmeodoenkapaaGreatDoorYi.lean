/- Part of a proof. -/
import Derived.Test.YtojmeodoenkapaaGreatDoorYh
open Go.Proofs.Tryz
namespace Go.Proofs.YtojmeodoenkapaaGreatDoor
set_option maxRecDepth 20000
set_option maxHeartbeats 8000000
set_option linter.unusedVariables false
set_option linter.unusedSimpArgs false
open Go.RowKit
theorem exC_rows:midRowR chainE∧midRowR chainE2:=by
 have h1:midBlkR tipE.b:=⟨Nat.zero_le _,Nat.zero_le _,fun x h=>by cases h⟩
 have hm:=mine_ok exE_mine
 have h2:midBlkR blkE:=by
  refine⟨?_,by rw[hm.2.2.2.1];exact Nat.zero_le _,by rw[hm.2.2.2.1];exact fun x h=>by cases h⟩
  have:=linksK_len tipE
  rw[hm.2.2.1]
  omega
 refine⟨⟨by show 1≤100000;omega,fun b hb=>?_⟩,⟨by show 2≤100000;omega,fun b hb=>?_⟩⟩
 · rw[mS.1 hb];exact h1
 · rcases List.mem_cons.1 hb with h|hb
   · rw[h];exact h1
   · rw[mS.1 hb];exact h2
theorem exC_levels:levelsB chainE2=[31,levelH blkE.h]:=by
 show [levelH tipE.b.h,levelH blkE.h]=_
 rw[show levelH tipE.b.h=31 from first_level exE_isC]
theorem idx0_op{a:Act}{dst:Option Tmp}{x y:Operand}{ty:TypeId}{pos:String}{after:Array Edge}{gd:Option (Nat × Bool)}{t e:TypeId}{z:Nat}(hu:Tryz.prog.underlying t=some (.slice e))(hz:(Tryz.prog.info? e).map (·.size)=some z){g n c i:Nat}(hi:i<n)(u:World)
  (hx:a.eval x= .slice (some ⟨g,0,none⟩) n c) (hy:a.eval y= .int .i64 (i:Int)):
  (execOp a.eval ⟨dst, .indexAddr t x y,ty,pos,after,gd⟩).run Tryz.prog u= .ok (.value (.pointer (some ⟨g,i*z,none⟩))) u:=by
 have h:=idxSl_op hu hz hi u hx hy (dst:=dst) (ty:=ty) (pos:=pos) (after:=after) (gd:=gd)
 rwa[Addr.add_mid,Nat.zero_add]at h
theorem intSize:(Tryz.prog.info? 3).map (·.size)=some 1:=by kernel_rfl
theorem chawake_any(H:ChainC)(w:World)(ht:Tables w):
  Rz 10 #[] w (.bool true):=by
 unfold Rz
 have HT:=hD ht
 have HH:=hD H
 have E1:Hid (EnvX w w []):=EnvX.start w
 clear ht H
 go_enter func10,ntmps10
 go_upto_region 1 with (fail)
 refine wp_region_Hx (w0:=w) [0,1,2,3,4,5] [] rfl E1.out ?_
 refine(hOp_turn (gd:=none) (R:=fun xv M'=> ∃tq Nq,xv= .tuple #[.slice tq.A tq.n tq.c, .bool true]∧M'=Nq∧KeptB w Nq (IsRow (chainE) tq)∧ ∃vq,IsRow (chainE) tq vq) rfl rfl rfl rfl (fun u hu=>OUpon_call (fid:=17) (xs:= #[.const (.int .u32 545259519)]) (args:= #[.int .u32 545259519]) rfl func17 rfl rfl u (row_turn0 (by have h:=HH.out.new 545259519 u (by decide) (HT.out.below (EnvX.bel hu));rw[exC_new]at h;exact h) hu)) ?_)
 rintro _ N1 ⟨m1,_,rfl,rfl,hk1,hv1⟩ he1;intro K' hK';go_big_quiet_op;go_big_quiet_on
 have HT1:=hD hk1
 have HV1:=hD hv1
 clear hk1 hv1
 refine phE [1,2,3,4,5] [] he1 fun hw=>?_
 refine qw 5 hw ?_
 refine enP fun u4 EX3=>?_
 have HR1:Hid (m1.r=chainE):=by obtain⟨v,hv⟩:=HV1.out;exact hv.1
 go_upto_region 2 with (fail)
 refine rgQ [0] [1,2,3,4,5,6] EX3 rfl fun hw=>?_
 refine qo rfl hw ?_
 refine wpG_nil<|(hOp_turn (gd:=none) (R:=fun xv M'=> ∃tq Nq,xv= .tuple #[.slice tq.A tq.n tq.c, .int .i64 ((0:Nat):Int)]∧M'=Nq++N1∧KeptB w Nq (IsRow (chainE2) tq)∧ ∃vq,IsRow (chainE2) tq vq) rfl rfl rfl rfl (fun u hu=>OUpon_call (fid:=15) (xs:= #[.tmp 13, .const (.slice none 0 0), .const (.int .u64 0)]) (args:= #[.slice m1.A m1.n m1.c, .slice none 0 0, .int .u64 0]) rfl func15 rfl rfl u (row_turn (by have h:=HH.out.grow m1 [] none 0 0 0 u (HT1.out u _ hu (fun y MEM=>MEM)).2 (by rw[HR1.out];exact exC_rows.1) rfl (Nat.le_refl _) (Nat.zero_le _) ⟨fun h=>absurd h (by decide),fun t h=>by cases h⟩ ⟨by decide,fun t h=>by cases h⟩ (by decide) (HT.out.below (EnvX.bel hu));rw[HR1.out,show rsT []=[]from rfl,exC_grow]at h;exact h) hu)) ?_)
 rintro _ _ ⟨m2,N2,rfl,rfl,hk2,hv2⟩ he6;intro K' hK';go_big_quiet_op;go_big_quiet_on
 have HT2:=hD hk2
 have HV2:=hD hv2
 clear hk2 hv2
 refine phE [2,3,4,5,6] [] he6 fun hw=>?_
 refine qw 5 hw ?_
 refine enP fun u9 EX8=>?_
 have HR2:Hid (m2.r=chainE2):=by obtain⟨v,hv⟩:=HV2.out;exact hv.1
 have HL2:Hid (m2.l.length=2):=by show _=_;rw[←m2.r_len,HR2.out];rfl
 have HN2:Hid (m2.n=2):=by obtain⟨v,hv⟩:=HV2.out;show _=_;rw[←hv.2.l,HL2.out]
 go_upto_region 3 with (fail)
 refine rgQ [0] [1,2,3,4,5,6,7] EX8 rfl fun hw=>?_
 refine qo rfl hw ?_
 refine wpG_nil<|(hOp_turn (gd:=none) (R:=fun x M'=> ∃tq N,x= .tuple #[.agg (tipA tq), .int .i64 ((0:Nat):Int)]∧M'=N++(N2++N1)∧KeptB w N (IsTip (tipE2) tq)∧ ∃vq,IsTip (tipE2) tq vq) rfl rfl rfl rfl (fun u hu=>OUpon_call (fid:=13) (xs:= #[.tmp 18]) (args:= #[.slice m2.A m2.n m2.c]) rfl func13 rfl rfl u (tip_turn (by have h:=HH.out.check m2 u (HT2.out u _ hu (fun y MEM=>(mL MEM))).2 (by rw[HR2.out];exact exC_rows.2) (HT.out.below (EnvX.bel hu));rw[HR2.out,exC_check2]at h;exact h) hu)) ?_)
 rintro _ _ ⟨t5,N5,rfl,rfl,hk5,hv5⟩ he11;intro K' hK';go_big_quiet_op;go_big_quiet_on
 have HT5:=hD hk5
 have HV5:=hD hv5
 have HK5:Hid (lenH t5.b.h):=by obtain⟨v,hv⟩:=HV5.out;exact hv.2.b.h.len
 clear hk5 hv5
 refine phE [2,3,4] [5,6,7] he11 fun hw=>?_
 refine qw 3 hw ?_
 refine wpG_nil<|qn rfl (new_tip _) fun g5 HGg5 he13=>?_
 change lexH _ _ _ _ _ _ ((g5,oc (tipA noTipM) 41)::(N5++(N2++N1)))
 refine(sh rfl HGg5 (infoTip _ (tipA_size HK5.out)) (tip_sizes HK5.out) (tipA_one _) ?_)
 intro he14
 refine phE [7] [] he14 fun hw=>?_
 refine qo rfl hw ?_
 refine enP fun u17 EX16=>?_
 obtain⟨lv,hlv⟩: ∃lv,levelH blkE.h=lv:=⟨_,rfl⟩
 have HLV:=hD hlv
 have HGE:Hid (decide ((0:Int)≤lv)=true):=decide_eq_true (by rw[←hlv];exact exC_level)
 clear hlv
 go_upto_region 4 with (fail)
 refine rgQ [0] [1,2] EX16 rfl fun hw=>?_
 refine qo rfl hw ?_
 refine wpG_nil<|qr (R:=FreshR 3 1 2 ([i64V 31,i64V lv])) rfl func22 (fun u hu=>callsR_fresh (by have h:=HH.out.levels m2 u (HT2.out u _ hu (fun y MEM=>(mT (mR (mL MEM))))).2 (by rw[HL2.out];omega) (HT.out.below (EnvX.bel hu));rw[HR2.out,exC_levels,HLV.out]at h;rw[show (2:Nat)=m2.n from HN2.out.symm];exact h)) ?_
 rintro x4 N4 hF hf he19
 obtain⟨gv,cv,cur,rfl,hN4,-,-,-,hcur⟩|⟨_,_,h0,_⟩:=hF
 case inr=>cases h0
 have HNE:=hD hN4
 have HCU:=hD hcur
 clear hN4 hcur
 clear hf
 refine phE [2] [] he19 fun hw=>?_
 refine qo rfl hw ?_
 refine enP fun u22 EX21=>?_
 have E4:Hid (EnvX w u22 ((gv,oc cur 3)::((g5,oc (tipA t5) 41)::(N5++(N2++N1))))):=by have h:=EX21.out;rw[HNE.out]at h;exact h
 have HC0:Hid (cur[0*1]?=some (.int .i64 31)∧cur[1*1]?=some (.int .i64 lv)):=by
  have h:=HCU.out
  have g: ∀j,j<2→cur[j]?=[i64V 31,i64V lv][j]?:=fun j hj=>by
   rw[←h,List.getElem?_take_of_lt (by omega),Array.getElem?_toList]
  exact⟨g 0 (by omega),g 1 (by omega)⟩
 clear EX21 HNE HCU
 have HB5:Hid (t5.b.r=blkE):=by obtain⟨v,hv⟩:=HV5.out;exact congrArg TipR.b hv.1
 have HGT:Hid (t5.b.h.height=1):=by show _=_;rw[show t5.b.h=blkE.h from congrArg BlkR.h HB5.out];exact exE_height
 obtain⟨ad,hA,hld⟩:=row_loads HT2.out HV2.out (k:=1) (by rw[HL2.out];omega)
 have hh:(m2.l.getD 1 noBlkM).h=blkE.h:=by rw[RowM.at_h (by rw[HL2.out];omega),HR2.out];rfl
 have HAD:=hD hA
 have HLD:Hid (∀u M,EnvX w u M→(∀y∈N2,y∈M)→(loadVar 34 (((ad.add (1*137))).add 0)).run Tryz.prog u= .ok (hdV blkE.h) u):=fun u M hu hM=>by rw[←hh];exact(hld u M hu hM).hd
 have HOB:Hid (okHd blkE.h):=by obtain⟨v,hv⟩:=HV2.out;rw[←hh];exact(hv.2.m.get (by rw[HL2.out];omega)).h
 clear hA hld hh
 have HID:Hid (isId (idH blkE.h)):=idH_id _
 have HZ:Hid ((!eqL (idH blkE.h) z32)=true):=(Bool.and_eq_true _ _ ▸ exC_ids).1
 have HI1:Hid (1<m2.n):=by show _<_;rw[HN2.out];omega
 have HM63:Hid (m2.n<9223372036854775808):=by show _<_;rw[HN2.out];omega
 go_upto_region 5 with (fail)
 refine rgQ [0,1,2,3,4,5,6,7,8,9,10,11,12,13,14,15,16,17,18,19,20,21,22,23,24,25,26,27,28,29,30,31,32,33,34,35,36,37,38,39,40,41,42,43,44,45,46,47,48,49,50,51,52,53,54,55,56,57,58,59,60,61,62,63] [64,65,66,67,68] E4 rfl fun hw=>?_
 refine qw 3 hw ?_
 refine qv rfl (fun u hu=>eqErr_op u (decide_eq_true rfl) rfl rfl) hw ?_
 refine qw 3 hw ?_
 refine qv rfl (fun u hu=>eqErr_op u (decide_eq_true rfl) rfl rfl) hw ?_
 refine qw 3 hw ?_
 refine qv rfl (fun u hu=>len_op underlying22 HM63.out u rfl) hw ?_
 refine qv (v:= .bool true) rfl (fun u hu=>eqlI_op u (decide_eq_true (by rw[HN2.out];rfl)) rfl rfl) hw ?_
 refine qw 5 hw ?_
 refine qv (v:= .int .i64 1) rfl (fun u hu=>load_any_op u (by have h:=(loads_hd HK5.out (box_tip_hd hu (mT mH) HK5.out)).2.1;rwa[HGT.out]at h) rfl) hw ?_
 refine qv rfl (fun u hu=>eqlI_op u (decide_eq_true rfl) rfl rfl) hw ?_
 refine qw 3 hw ?_
 refine qv (v:= .int .i64 ((2:Nat):Int)) rfl (fun u hu=>len_op underlying52 (by decide) u rfl) hw ?_
 refine qv rfl (fun u hu=>eqlI_op u (decide_eq_true rfl) rfl rfl) hw ?_
 refine qw 3 hw ?_
 refine qv (v:= .pointer (some ⟨gv,0*1,none⟩)) rfl (fun u hu=>idx0_op (i:=0) underlying52 intSize (by decide) u rfl rfl) hw ?_
 refine qv (v:= .int .i64 31) rfl (fun u hu=>load_any_op u (run_load_one oneInt u (box_cell (k:=0*1) hu mH HC0.out.1)) rfl) hw ?_
 refine qv rfl (fun u hu=>eqlI_op u (decide_eq_true rfl) rfl rfl) hw ?_
 refine qw 3 hw ?_
 refine qv (v:= .pointer (some ⟨gv,1*1,none⟩)) rfl (fun u hu=>idx0_op (i:=1) underlying52 intSize (by decide) u rfl rfl) hw ?_
 refine qv (v:= .int .i64 lv) rfl (fun u hu=>load_any_op u (run_load_one oneInt u (box_cell (k:=1*1) hu mH HC0.out.2)) rfl) hw ?_
 refine qv rfl (fun u hu=>geZ_op u HGE.out rfl rfl) hw ?_
 refine qw 4 hw ?_
 refine qv (v:= .pointer (some (ad.add (1*137)))) rfl (fun u hu=>by rw[HAD.out];exact idxSl_op (i:=1) underlying22 aggBlk.size HI1.out u rfl rfl) hw ?_
 refine qv (v:= .pointer (some ((ad.add (1*137)).add 0))) rfl (fun u hu=>fieldBlk_op (k:=0) (off:=0) (ad:=(ad.add (1*137))) rfl u rfl) hw ?_
 refine qv rfl (fun u hu=>load_any_op u (HLD.out u _ hu (fun y MEM=>(mT (mT (mR (mL MEM)))))) rfl) hw ?_
 refine qc (args:= #[hdV blkE.h]) (v:=idv (idH blkE.h)) rfl func32 (fun u hu=>hid_any blkE.h u HOB.out (HT.out.below (EnvX.bel hu))) hw ?_
 refine qc (args:= #[.slice m2.A m2.n m2.c,idv (idH blkE.h)]) (v:= .int .i64 1) rfl func28 (fun u hu=>by have h:=HH.out.find m2 (idH blkE.h) u (HT2.out u _ hu (fun y MEM=>(mT (mT (mR (mL MEM)))))).2 (by rw[HL2.out];omega) HID.out (HT.out.below (EnvX.bel hu));rw[HR2.out,exC_find]at h;exact h) hw ?_
 refine qv rfl (fun u hu=>eqlI_op u (decide_eq_true rfl) rfl rfl) hw ?_
 refine qw 4 hw ?_
 refine qc (args:= #[.slice m2.A m2.n m2.c, .slice m2.A m2.n m2.c]) (v:= .bool true) rfl func24 (fun u hu=>by have h:=HH.out.same m2 m2 u (HT2.out u _ hu (fun y MEM=>(mT (mT (mR (mL MEM)))))).2 (by rw[HR2.out];exact exC_rows.2) (HT2.out u _ hu (fun y MEM=>(mT (mT (mR (mL MEM)))))).2 (by rw[HR2.out];exact exC_rows.2) (HT.out.below (EnvX.bel hu));rw[decide_eq_true rfl]at h;exact h) hw ?_
 refine qw 3 hw ?_
 refine qv (v:= .pointer (some (ad.add (1*137)))) rfl (fun u hu=>by rw[HAD.out];exact idxSl_op (i:=1) underlying22 aggBlk.size HI1.out u rfl rfl) hw ?_
 refine qv (v:= .pointer (some ((ad.add (1*137)).add 0))) rfl (fun u hu=>fieldBlk_op (k:=0) (off:=0) (ad:=(ad.add (1*137))) rfl u rfl) hw ?_
 refine qv rfl (fun u hu=>load_any_op u (HLD.out u _ hu (fun y MEM=>(mT (mT (mR (mL MEM)))))) rfl) hw ?_
 refine qc (args:= #[hdV blkE.h]) (v:=idv (idH blkE.h)) rfl func32 (fun u hu=>hid_any blkE.h u HOB.out (HT.out.below (EnvX.bel hu))) hw ?_
 refine qv (v:=idv z32) rfl (fun u hu=>buildA_op u (by kernel_rfl)) hw ?_
 refine qv rfl (fun u hu=>neqb_op HID.out.1 rfl HZ.out u rfl rfl) hw ?_
 refine qw 3 hw ?_
 refine wpG_nil<|(hOp_freshG (R:=FreshR 61 37 2 (((leavesB m2.r).map totC).flatten)) (M0:=((gv,oc cur 3)::((g5,oc (tipA t5) 41)::(N5++(N2++N1))))) rfl rfl rfl (fun _ h=>h) (fun u hu=>FAt_call (fid:=26) (xs:= #[.tmp 87]) (args:= #[.slice m2.A m2.n m2.c]) rfl func26 rfl rfl u (callsR_fresh (by have h:=HH.out.leaves m2 u (HT2.out u _ hu (fun y MEM=>(mT (mT (mR (mL MEM)))))).2 (by rw[HL2.out];omega) (HT.out.below (EnvX.bel hu));rw[show (2:Nat)=m2.n from HN2.out.symm];exact h))) ?_)
 rintro x9 N9 hF hf he44;intro K' hK';go_big_quiet_op;go_big_quiet_on
 obtain⟨A9,c9,rfl,-,-⟩:=FreshR.formR hF
 clear hF
 clear hf
 refine phE [65,66,67,68] [] he44 fun hw=>?_
 refine qv (v:= .int .i64 ((2:Nat):Int)) rfl (fun u hu=>len_op underlying38 (by decide) u rfl) hw ?_
 refine qv rfl (fun u hu=>eqlI_op u (decide_eq_true rfl) rfl rfl) hw ?_
 refine qw 2 hw ?_
 refine enP fun u47 EX46=>?_
 have HBE:=hD (EnvX.bel EX46.out)
 go_wp2
 go_ret
 exact⟨rfl,HBE.out⟩
def fewB(l:List BlkM):Bool:=l.all fewK&& decide ((l.length:Int)≤50)
theorem fewB_no{l:List BlkM}{k:Nat}(hk:k<l.length)(h:fewK (l.getD k noBlkM)=false):fewB l=false:=by
 unfold fewB
 rw[show l.all fewK=false from ?_,Bool.false_and]
 rw[List.all_eq_false]
 rw[gD,gE hk]at h
 exact⟨_,List.getElem_mem hk,by rw[show fewK l[k]=false from h];decide⟩
theorem fewB_all{l:List BlkM}(h: ∀k,k<l.length→fewK (l.getD k noBlkM)=true):fewB l=decide ((l.length:Int)≤50):=by
 unfold fewB
 rw[show l.all fewK=true from ?_,Bool.true_and]
 rw[List.all_eq_true]
 intro x hx
 obtain⟨k,hk,rfl⟩:=List.getElem_of_mem hx
 have:=h k hk
 rwa[gD,gE hk]at this
theorem fewB_mid{m:RowM}(h:fewB m.l=true):midRowR m.r∧m.l.length≤50:=by
 unfold fewB at h
 rw[Bool.and_eq_true,List.all_eq_true,decide_eq_true_eq]at h
 have h2:m.l.length≤50:=by omega
 refine⟨⟨by rw[m.r_len];omega,fun b hb=>?_⟩,h2⟩
 obtain⟨x,hx,rfl⟩:=List.mem_map.1 hb
 exact(midBlk_iff x).1 (fewK.mid (h.1 x hx)).1
theorem fewrow_any (m:RowM) (w:World) (km:RowOk w m):
  Rz 11 #[rowV m] w (.bool (fewB m.l)):=by
 unfold Rz
 have HKM:=hD km
 have HL:Hid (m.l.length=m.n):=km.l
 have HN63:Hid (m.n<9223372036854775808):=km.n63
 have E1:Hid (EnvX w w []):=EnvX.start w
 clear km
 unfold rowV
 go_enter func11,ntmps11
 go_upto_region 2 with (fail)
 go_loopw [3] (fun iv u=> ∃k:Nat,k≤m.n∧iv= .int .i64 (k:Int)∧Hid ((∀j,j<k→fewK (m.l.getD j noBlkM)=true)∧EnvX w u [])) (fun iv _=>m.n- (intOf iv).toNat)
 case atStart=>exact⟨0,by omega,rfl,(fun j hj=>by omega),E1.out⟩
 case round=>
  obtain⟨k,hk,rfl,hinv⟩:=hrel
  have H1:=hD hinv.out.1
  have EK:=hD hinv.out.2
  clear hinv E1
  by_cases hlt:k<m.n
  · have C2:Hid (decide ((k:Int)<(m.n:Int))=true):=decide_eq_true (by omega)
    have HI:=hD hlt
    have hil:k<m.l.length:=by rw[HL.out];exact hlt
    have HIL:=hD hil
    obtain⟨ad,hA,hld⟩:=HKM.out.loads hil
    have HAD:=hD hA
    have HLD:=hD hld
    have HTX:=hD (HKM.out.m.get hil)
    obtain⟨x,hx⟩: ∃x,m.l.getD k noBlkM=x:=⟨_,rfl⟩
    rw[hx]at HLD HTX
    have HXE:=hD hx
    have HN1:Hid (x.n1<9223372036854775808):=HTX.out.n63.1
    have HFA:Hid (Rt w 12 #[.slice x.A2 x.n2 x.c2, .int .i64 6] (.bool (fewAll x.t 6))):=fun u hu=>fewall_any x.t 6 x.A2 x.n2 x.c2 u HTX.out.l2 HTX.out.n63.2 (HTX.out.m2.up (EnvX.bel hu))
    obtain⟨b1,hb1⟩: ∃b1,fewAll x.t 6=b1:=⟨_,rfl⟩
    rw[hb1]at HFA
    obtain⟨b2,hb2⟩: ∃b2,decide ((40:Int)<(x.n1:Int))=b2:=⟨_,rfl⟩
    have D2:=hD hb2
    have HFX:Hid (fewK x=(b1&& !b2)):=by
     show _=_
     unfold fewK
     rw[hb1,←hb2,HTX.out.l1]
     have:decide (x.n1≤40)=!decide ((40:Int)<(x.n1:Int)):=by
      by_cases h:x.n1≤40
      · rw[decide_eq_true h,decide_eq_false (by omega)];rfl
      · rw[decide_eq_false h,decide_eq_true (by omega)];rfl
     rw[this]
    clear hld hil hlt hx hb1 hb2 hA
    go_upto_region 2 with (fail)
    refine rgQ [0,1,2,3] [] EK rfl fun hw=>?_
    refine qw 2 hw ?_
    refine qv rfl (fun u hu=>len_op underlying22 HN63.out u rfl) hw ?_
    refine qv rfl (fun u hu=>ltZ_op u C2.out rfl rfl) hw ?_
    refine enP fun u23 EX22=>?_
    cases b1 with
    |false=>
     have HF:Hid (fewB m.l=false):=fewB_no HIL.out (by rw[HXE.out];exact HFX.out)
     go_upto_region 4 with (fail)
     refine rgQ [0,1,2,3,4,5,6] [] EX22 rfl fun hw=>?_
     refine qw 2 hw ?_
     refine qv (v:= .pointer (some (ad.add (k*137)))) rfl (fun u hu=>by rw[HAD.out];exact idxSl_op (i:=k) underlying22 aggBlk.size HI.out u rfl rfl) hw ?_
     refine qv (v:= .pointer (some ((ad.add (k*137)).add 136))) rfl (fun u hu=>fieldBlk_op (k:=2) (off:=136) (ad:=ad.add (k*137)) rfl u rfl) hw ?_
     refine qv rfl (fun u hu=>load_any_op u (HLD.out u (nl hu)).txs rfl) hw ?_
     refine qc rfl func12 (fun u hu=>HFA.out u (nl hu)) hw ?_
     refine qo rfl hw ?_
     refine enP fun u26 EX25=>?_
     go_upto_region 5 with (fail)
     refine rgQ [0,1,2,3,4,5,6,7,8,9,10] [] EX25 rfl fun hw=>?_
     refine qw 11 hw ?_
     refine enP fun u29 EX28=>?_
     go_upto_region 6 with (fail)
     refine rgQ [0] [] EX28 rfl fun hw=>?_
     refine qo rfl hw ?_
     refine enP fun u32 EX31=>?_
     have HBE:=hD (EnvX.bel EX31.out)
     go_wp2
     go_ret
     exact⟨by rw[HF.out];first|done|rfl,HBE.out⟩
    | true=>
     cases b2 with
     |true=>
      have HF:Hid (fewB m.l=false):=fewB_no HIL.out (by rw[HXE.out];exact HFX.out)
      go_upto_region 4 with (fail)
      refine rgQ [0,1,2,3,4,5,6] [] EX22 rfl fun hw=>?_
      refine qw 2 hw ?_
      refine qv (v:= .pointer (some (ad.add (k*137)))) rfl (fun u hu=>by rw[HAD.out];exact idxSl_op (i:=k) underlying22 aggBlk.size HI.out u rfl rfl) hw ?_
      refine qv (v:= .pointer (some ((ad.add (k*137)).add 136))) rfl (fun u hu=>fieldBlk_op (k:=2) (off:=136) (ad:=ad.add (k*137)) rfl u rfl) hw ?_
      refine qv rfl (fun u hu=>load_any_op u (HLD.out u (nl hu)).txs rfl) hw ?_
      refine qc rfl func12 (fun u hu=>HFA.out u (nl hu)) hw ?_
      refine qo rfl hw ?_
      refine enP fun u26 EX25=>?_
      go_upto_region 5 with (fail)
      refine rgQ [0,1,2,3,4,5,6,7,8,9,10] [] EX25 rfl fun hw=>?_
      refine qw 5 hw ?_
      refine qv (v:= .pointer (some (ad.add (k*137)))) rfl (fun u hu=>by rw[HAD.out];exact idxSl_op (i:=k) underlying22 aggBlk.size HI.out u rfl rfl) hw ?_
      refine qv (v:= .pointer (some ((ad.add (k*137)).add 135))) rfl (fun u hu=>fieldBlk_op (k:=1) (off:=135) (ad:=ad.add (k*137)) rfl u rfl) hw ?_
      refine qv rfl (fun u hu=>load_any_op u (HLD.out u (nl hu)).ids rfl) hw ?_
      refine qv rfl (fun u hu=>len_op underlying35 HN1.out u rfl) hw ?_
      refine qv rfl (fun u hu=>gtZ_op u D2.out rfl rfl) hw ?_
      refine qo rfl hw ?_
      refine enP fun u29 EX28=>?_
      go_upto_region 6 with (fail)
      refine rgQ [0] [] EX28 rfl fun hw=>?_
      refine qo rfl hw ?_
      refine enP fun u32 EX31=>?_
      have HBE:=hD (EnvX.bel EX31.out)
      go_wp2
      go_ret
      exact⟨by rw[HF.out];first|done|rfl,HBE.out⟩
     |false=>
      have H3:Hid (∀j,j<k+1→fewK (m.l.getD j noBlkM)=true):=fun j hj=>by
        rcases Nat.lt_or_ge j k with h|h
        · exact H1.out j h
        · rw[show j=k by omega,HXE.out];exact HFX.out
      go_upto_region 4 with (fail)
      refine rgQ [0,1,2,3,4,5,6] [] EX22 rfl fun hw=>?_
      refine qw 2 hw ?_
      refine qv (v:= .pointer (some (ad.add (k*137)))) rfl (fun u hu=>by rw[HAD.out];exact idxSl_op (i:=k) underlying22 aggBlk.size HI.out u rfl rfl) hw ?_
      refine qv (v:= .pointer (some ((ad.add (k*137)).add 136))) rfl (fun u hu=>fieldBlk_op (k:=2) (off:=136) (ad:=ad.add (k*137)) rfl u rfl) hw ?_
      refine qv rfl (fun u hu=>load_any_op u (HLD.out u (nl hu)).txs rfl) hw ?_
      refine qc rfl func12 (fun u hu=>HFA.out u (nl hu)) hw ?_
      refine qo rfl hw ?_
      refine enP fun u26 EX25=>?_
      go_upto_region 5 with (fail)
      refine rgQ [0,1,2,3,4,5,6,7,8,9,10] [] EX25 rfl fun hw=>?_
      refine qw 5 hw ?_
      refine qv (v:= .pointer (some (ad.add (k*137)))) rfl (fun u hu=>by rw[HAD.out];exact idxSl_op (i:=k) underlying22 aggBlk.size HI.out u rfl rfl) hw ?_
      refine qv (v:= .pointer (some ((ad.add (k*137)).add 135))) rfl (fun u hu=>fieldBlk_op (k:=1) (off:=135) (ad:=ad.add (k*137)) rfl u rfl) hw ?_
      refine qv rfl (fun u hu=>load_any_op u (HLD.out u (nl hu)).ids rfl) hw ?_
      refine qv rfl (fun u hu=>len_op underlying35 HN1.out u rfl) hw ?_
      refine qv rfl (fun u hu=>gtZ_op u D2.out rfl rfl) hw ?_
      refine qo rfl hw ?_
      refine enP fun u29 EX28=>?_
      have hii:=HI.out
      have hn:=HN63.out
      go_wp2
      go_roundw
      case rel=>exact⟨k+1,by omega,by go_num,H3.out,EX28.out⟩
      case measure=>simp[intOf];omega
  · obtain rfl:k=m.n:=by omega
    have C2:Hid (decide ((m.n:Int)<(m.n:Int))=false):=decide_eq_false (by omega)
    obtain⟨b,hb⟩: ∃b,decide ((m.n:Int)≤50)=b:=⟨_,rfl⟩
    have D7:=hD hb
    have HF:Hid (fewB m.l=b):=by show _=_;rw[fewB_all (fun j hj=>H1.out j (by rw[←HL.out];exact hj)),HL.out];exact hb
    clear hb
    go_upto_region 2 with (fail)
    refine rgQ [0,1,2,3] [] EK rfl fun hw=>?_
    refine qw 2 hw ?_
    refine qv rfl (fun u hu=>len_op underlying22 HN63.out u rfl) hw ?_
    refine qv rfl (fun u hu=>ltZ_op u C2.out rfl rfl) hw ?_
    refine enP fun u303 EX302=>?_
    go_upto_region 7 with (fail)
    refine rgQ [0,1,2,3] [] EX302 rfl fun hw=>?_
    refine qo rfl hw ?_
    refine qv rfl (fun u hu=>len_op underlying22 HN63.out u rfl) hw ?_
    refine qv rfl (fun u hu=>leZ_op u D7.out rfl rfl) hw ?_
    refine qo rfl hw ?_
    refine enP fun u306 EX305=>?_
    have HBE:=hD (EnvX.bel EX305.out)
    go_wp2
    go_ret
    exact⟨by rw[HF.out];first|done|rfl,HBE.out⟩
theorem vleafOf_any(id:List Int)(w:World)(hid:isId id)(ht:Tables w):
  Rz 71 #[idv id] w (idv (leafT id)):=by
 unfold Rz
 have HSR:Hid (((arrB 32 id).toList.drop 0).take (id.map u8v).length=id.map u8v):=id_src hid.1
 have HLF:Hid (∀u,Below w.heap.size w u→Bytes u u.heap.size (some ⟨w.heap.size,0,none⟩) id→Calls Tryz.prog 117 #[.slice (some ⟨w.heap.size,0,none⟩) 32 32] u fun e w'=>e= .returned (idv (leafT id))∧Below u.heap.size u w'):=fun u hu hb=>leaf_any _ 32 32 id u hid.1 (by omega) hb hid.2 (ht.below hu)
 have E1:Hid (EnvX w ((w.alloc (.cells (arrB 32 id) 26)).alloc (.cells (arrB 32 []) 26)) [(w.heap.size+1,oc (arrB 32 []) 26),(w.heap.size,oc (arrB 32 id) 26)]):=(EnvX.start w).two _ _
 have hlf:(leafT id).length=32:=sumL_len _
 generalize leafT id=lf at *
 have HZ:Hid ((arrB 32 lf).size=32):=arrB_size _ _ (by rw[hlf];omega)
 clear hid ht hlf
 unfold idv
 go_enter func71,ntmps71
 go_upto_region 1 with (fail)
 rw[zero_cells]
 generalize (w.alloc (.cells (arrB 32 id) 26)).alloc (.cells (arrB 32 []) 26)=W at *
 refine rgQ [0,1] [2] E1 rfl fun hw=>?_
 refine qv (v:= .slice (some ⟨w.heap.size,0,none⟩) 32 32) rfl (fun u hu=>sliceArr_op u rfl) hw ?_
 refine qc rfl func117 (fun u hu=>HLF.out u (EnvX.bel hu) (bytes_srcI (EnvX.lt hu (mT mH)) (src_box hu (mT mH) HSR.out))) hw ?_
 refine wpG_nil<|(so rfl (Nat.le_succ _) mH (info26 _ HZ.out) ((arrB_size _ _ (by simp)).trans HZ.out.symm) (arrB_one _ _) ?_)
 refine fun _=>enL fun u4 EX3=>?_
 have Q0:=hD (EnvX.box EX3.out _ _ mH)
 have HBEL:=hD EX3.out.bel
 clear EX3
 go_wp2_with ((with_reducible refine bodyPost_ret (v:= .agg (arrB 32 lf)) ?_ ?_ ?_);(exact results_cell_row (p:=2) (ty:=26) results71 _ _ (w.heap.size+1) 26 (arrB 32 lf) (0,0) _ rfl Q0.out underlying26 rfl (info26 _ HZ.out));(rfl))
 first|exact HBEL.out|exact⟨rfl,HBEL.out⟩
theorem veach_any(l:List (List Int))(A:Option Addr)(n c:Nat)(w:World)(hl:l.length=n)(hn:n≤1000000)(hnc:n≤c)(hcm:c≤maxLen)(hI:isIds l)(hA:IdsIn w w.heap.size A l)(ht:Tables w):
  Calls Tryz.prog 70 #[.slice A n c, .func (.func 71) #[] #[]] w fun e w'=>(∃v,e= .returned v∧OwnI w' w.heap.size v (leavesL l))∧Below w.heap.size w w':=by
 have HL:=hD hl
 have HIA:=hD (And.intro hI hA)
 have HTT:=hD ht
 have HN6:Hid (n≤1000000):=hn
 have HN63:Hid (n<9223372036854775808):=by show _<_;omega
 have HNM:Hid (n≤maxLen):=Nat.le_trans hnc hcm
 have E1:Hid (EnvX w w []):=EnvX.start w
 clear hl hI hA ht hnc hcm
 go_enter func70,ntmps70
 go_upto_region 1 with (fail)
 refine rgQ [0,1] [2,3] E1 rfl fun hw=>?_
 refine qo rfl hw ?_
 refine qv rfl (fun u hu=>len_op underlying35 HN63.out u rfl) hw ?_
 refine wpG_nil<|(hOp_fresh (R:=fun v N=> ∃g cur,v= .slice (some ⟨g,0,none⟩) 0 n∧N=[(g,oc cur 26)]∧cur.size=n*32) (M0:=[]) rfl rfl (fun _ h=>h) (fun u hu=>FAt_makeI HN6.out rfl u) ?_)
 rintro _ _ ⟨gm,cm,rfl,rfl,hcm⟩ hf he2;intro K' hK';go_big_quiet_op;go_big_quiet_on
 have HCM:=hD hcm
 have HGM:=hD (hf _ (mS.2 rfl))
 clear hcm
 clear hf
 refine phE [3] [] he2 fun hw=>?_
 refine qo rfl hw ?_
 refine enP fun u5 EX4=>?_
 go_upto_region 2 with (fail)
 refine rgQ [0,1,2] [] EX4 rfl fun hw=>?_
 refine qo rfl hw ?_
 refine qv rfl (fun u hu=>len_op underlying35 HN63.out u rfl) hw ?_
 refine qo rfl hw ?_
 refine enP fun u8 EX7=>?_
 have HINV:Hid (OwnI u8 w.heap.size (.slice (some ⟨gm,0,none⟩) 0 n) (leavesL (l.take 0))∧Below w.heap.size w u8):=by
  refine⟨?_,EnvX.bel EX7.out⟩
  have hF:FreshI [] (.slice (some ⟨gm,0,none⟩) 0 n) [(gm,oc cm 26)]:= .inl ⟨gm,n,cm,rfl,rfl,Nat.zero_le _,HNM.out,HCM.out,rfl⟩
  exact hF.own (fun y hy=>by cases hy) (fun y hy=>by cases mS.1 hy;exact⟨HGM.out.1,EnvX.box EX7.out _ _ mH⟩)
 clear EX7 E1 HCM HGM HNM
 go_upto_region 3 with (fail)
 go_loopw [5,13] (fun v iv u=> ∃k:Nat,k≤n∧iv= .int .i64 (k:Int)∧Hid (OwnI u w.heap.size v (leavesL (l.take k))∧Below w.heap.size w u)) (fun _ iv _=>n- (intOf iv).toNat)
 case atStart=>exact⟨0,by omega,rfl,HINV⟩
 case round=>
  obtain⟨k,hk,rfl,hinv⟩:=hrel
  obtain⟨hO,hB⟩:=hinv.out
  clear hinv HINV
  by_cases hlt:k<n
  · have hlt2:(k:Int)<(n:Int):=by omega
    have hkl:k<l.length:=by rw[HL.out];exact hlt
    obtain⟨N,hF,hN⟩:=hO.fresh
    have HF:=hD hF
    have HNB:Hid (∀y∈N,w.heap.size≤y.1):=fun y hy=>(hN y hy).1
    have EK:Hid (EnvX w wr (N++[])):=⟨hB,fun g o hm=>(hN (g,o) (by rwa[List.append_nil]at hm)).2.1⟩
    obtain⟨ad,rfl,-⟩:=HIA.out.2.load HIA.out.1 hkl
    have HLD:Hid (∀u,Below w.heap.size w u→(loadVar 26 (ad.add (k*32))).run Tryz.prog u= .ok (idv (l.getD k [])) u):=fun u hu=>by
     obtain⟨ad2,e,h⟩:=(HIA.out.2.up hu).load HIA.out.1 hkl
     cases e
     exact h
    have hst:=lleaves_step hkl
    have hQl:(leavesL (l.take k)).length=k:=by rw[leavesL_len,List.length_take];omega
    have HX:Hid (isId (l.getD k [])):=HIA.out.1.get hkl
    have HLF:Hid (Rb w 71 #[idv (l.getD k [])] (idv (leafT (l.getD k [])))):=fun u hu=>vleafOf_any _ u HX.out (HTT.out.below hu)
    have HQ:Hid (isIds (leavesL (l.take k))∧(leavesL (l.take k)).length≤1000000):=⟨leavesL_ids _,by omega⟩
    have HKN:=hD hlt
    have HST:=hD hst
    clear hO hB hF hN hst hQl hkl hlt
    generalize leavesL (l.take k)=Q at *
    generalize l.getD k []=x at *
    have HLX:Hid ((leafT x).length=32):=sumL_len _
    go_upto_region 4 with (fail)
    refine rgQ [0,1] [2,3] EK rfl fun hw=>?_
    refine qv rfl (fun u hu=>idxSl_op underlying35 aggIdT.size HKN.out u rfl rfl) hw ?_
    refine qv rfl (fun u hu=>load_any_op u (HLD.out u (EnvX.bel hu)) rfl) hw ?_
    refine wpG_nil<|qn rfl (new_id _) fun g7 HG7 he10=>?_
    change lexH _ _ _ _ _ _ ((g7,oc (arrB 32 []) 26)::(N++[]))
    refine(sh rfl HG7 (info26 _ (arrB_size _ _ (by rw[HX.out.1];omega))) ((arrB_size _ _ (by simp)).trans (arrB_size _ _ (by rw[HX.out.1];omega)).symm) (arrB_one _ _) ?_)
    refine fun _=>enL fun u13 EX12=>?_
    go_upto_region 5 with (fail)
    refine rgP [0,1,2,3] [4,5,6] EX12 rfl ?_;intro hw14 hone
    iterate 2 refine qo rfl ⟨_,hw14⟩ ?_
    refine qv rfl (fun u hu=>load_run_op u (box_load hu mH HX.out.1) rfl) ⟨_,hw14⟩ ?_
    (refine wpG_callV (f:=71) (args:= #[idv x]) (caps:= #[]) (all:= #[idv x]) (v:=idv (leafT x)) rfl rfl rfl rfl rfl func71 rfl rfl (fun u hu=>HLF.out u (EnvX.bel hu)) ?_ hw14;intro K hK;go_big_quiet_op;go_big_quiet_on)
    clear hone hw14
    refine wpG_nil<|(hOp_fresh (R:=BuiltI (leafT x)) (M0:=((g7,oc (arrB 32 x) 26)::(N++[]))) rfl rfl (fun _ h=>h) (fun u hu=>FAt_buildI HLX.out rfl u) ?_)
    rintro _ _ ⟨gq,rfl,rfl⟩ hf he15;intro K' hK';go_big_quiet_op;go_big_quiet_on
    clear hf
    change lexH _ _ _ _ _ _ ((gq,oc (arrB 32 (leafT x)) 26)::((g7,oc (arrB 32 x) 26)::(N++[])))
    refine(hOp_own (gd:=none) (R:=GrownI w (Q++[leafT x]) []) rfl rfl rfl rfl (fun u hu=>appI_op [] hu HQ.out.1 HLX.out HF.out (fun y hy=>⟨mT (mT (mL hy)),HNB.out y hy⟩) mH (fun _ h=>by cases h) HQ.out.2 rfl rfl) ?_)
    rintro x9 M' ⟨N9,rfl,hF9,hn9⟩ he16;intro K' hK';go_big_quiet_op;go_big_quiet_on
    have HF9:=hD (And.intro hF9 hn9)
    clear hF9 hn9
    refine phE [6] [] he16 fun hw=>?_
    refine qo rfl hw ?_
    refine enP fun u19 EX18=>?_
    have HNX:Hid (OwnI u19 w.heap.size x9 (leavesL (l.take (k+1)))∧Below w.heap.size w u19):=by
     refine⟨?_,EnvX.bel EX18.out⟩
     rw[HST.out]
     refine HF9.out.1.own (fun y hy=>?_) (fun y hy=>⟨(HF9.out.2 y hy).1,EnvX.box EX18.out _ _ (mL hy)⟩)
     rcases List.mem_append.1 hy with h|h
     · exact HQ.out.1 y h
     · cases mS.1 h;exact⟨sumL_len _,sumL_byte _⟩
    go_wp2
    go_roundw
    case rel=>exact⟨k+1,by omega,by go_num,HNX⟩
    case measure=>simp[intOf];omega
  · obtain rfl:k=n:=by omega
    have hge: ¬(k:Int)<(k:Int):=by omega
    rw[tL (by rw[HL.out];exact Nat.le_refl _)]at hO
    have HO:=hD hO
    have HB:=hD hB
    clear hO hB
    go_wp2
    go_ret
    exact⟨⟨_,rfl,HO.out⟩,HB.out⟩
theorem vlink_root(l:List (List Int))(A:Option Addr)(n c:Nat)(w:World)(hl:l.length=n)(hn:n≤1000000)(hnc:n≤c)(hcm:c≤maxLen)(hI:isIds l)(hA:IdsIn w w.heap.size A l)(ht:Tables w):
  Rz 34 #[.slice A n c] w (idv (rootT (leavesL l))):=by
 unfold Rz
 have HLV:Hid (∀u,Below w.heap.size w u→Calls Tryz.prog 70 #[.slice A n c, .func (.func 71) #[] #[]] u fun e w'=>(∃v,e= .returned v∧OwnI w' u.heap.size v (leavesL l))∧Below u.heap.size u w'):=fun u hu=>veach_any l A n c u hl hn hnc hcm hI (hA.up hu) (ht.below hu)
 have hri:=root_id (leavesL_ids l)
 have HRT:Hid (∀(u:World)(A1:Option Addr)(c1:Nat),Below w.heap.size w u→(leavesL l).length≤c1→c1≤maxLen→IdsIn u u.heap.size A1 (leavesL l)→Calls Tryz.prog 69 #[.slice A1 (leavesL l).length c1] u fun e w'=>e= .returned (idv (rootT (leavesL l)))∧Below u.heap.size u w'):=fun u A1 c1 hb h1 h2 h3=>root_any (leavesL l) A1 _ c1 u rfl (by rw[leavesL_len,hl];exact hn) (leavesL_ids l) h3 (ht.below hb)
 have E1:Hid (EnvX w (w.alloc (.cells (arrB 32 []) 26)) [(w.heap.size,oc (arrB 32 []) 26)]):=(EnvX.start w).new _
 generalize rootT (leavesL l)=rt at *
 have HZ:Hid ((arrB 32 rt).size=32):=arrB_size _ _ (by rw[hri.1];omega)
 clear hl hI hA hri ht hnc hcm
 unfold idv
 go_enter func34,ntmps34
 go_upto_region 1 with (fail)
 rw[zero_cells]
 generalize w.alloc (.cells (arrB 32 []) 26)=W at *
 refine rgQ [0] [1,2,3] E1 rfl fun hw=>?_
 refine qo rfl hw ?_
 refine wpG_nil<|qr rfl func70 (fun u hu=>callsI_fresh (HLV.out u (EnvX.bel hu))) ?_
 rintro x N1 hF hf he2
 obtain⟨A1,c1,rfl,hc1,hc2⟩:=FreshI.form hF
 have HF:=hD (And.intro hF (And.intro hc1 hc2))
 clear hF hc1 hc2
 clear hf
 refine phE [2] [3] he2 fun hw=>?_
 refine qc rfl func69 (fun u hu=>HRT.out u A1 c1 (EnvX.bel hu) HF.out.2.1 HF.out.2.2 (HF.out.1.ids (leavesL_ids l) hu (fun y hy=>mL hy))) hw ?_
 refine wpG_nil<|(so rfl (Nat.le_refl _) (mR mH) (info26 _ HZ.out) ((arrB_size _ _ (by simp)).trans HZ.out.symm) (arrB_one _ _) ?_)
 refine fun _=>enL fun u6 EX5=>?_
 have Q0:=hD (EnvX.box EX5.out _ _ mH)
 have HBEL:=hD EX5.out.bel
 clear EX5
 go_wp2_with ((with_reducible refine bodyPost_ret (v:= .agg (arrB 32 rt)) ?_ ?_ ?_);(exact results_cell_row (p:=2) (ty:=26) results34 _ _ (w.heap.size) 26 (arrB 32 rt) (0,0) _ rfl Q0.out underlying26 rfl (info26 _ HZ.out));(rfl))
 first|exact HBEL.out|exact⟨rfl,HBEL.out⟩
open Go.RowKit Go.Shelf
theorem nonces_any(q:Int)(k:Int)(w:World):
  Calls Tryz.prog 154 #[.int .u64 q, .int .i64 k] w fun e w'=>e= .returned (.func (.func 193) #[] #[.pointer (some ⟨w.heap.size+1,0,none⟩), .pointer (some ⟨w.heap.size,0,none⟩)])∧
   w'=(w.alloc (.cells #[.int .u64 q] 24)).alloc (.cells #[.int .i64 k] 3):=by
 go_enter func154,ntmps154
 go_wp2
 go_ret
 exact⟨rfl,rfl⟩
attribute [local go_sem] Oper.semAt_some
theorem nonces1_in(n:Nat)(h1n:1≤n)(l Bc Bf n₀ q:Nat)(hq:q<18446744073709551616)(cnt:Int)(K:Nat)(hcn:I64 cnt)(hK:cnt.toNat=K)(J Jx:List Nat→World→Prop)
  (hY: ∀pre x W,J pre W→pre.length<K→YieldAt Fence.wide (n- 1) Tryz.prog l #[.int .u64 (((q+x) % 18446744073709551616:Nat):Int)] W fun e W'=>
    (e= .returned (.bool true)∧J (pre++[x]) W'∧KpB n₀ Bf W W')∨(e= .returned (.bool false)∧Jx (pre++[x]) W'))
  (W:World) (hBc:W.cell? ⟨Bc,0,none⟩=some (.int .i64 cnt)) (hBf:Boxed W Bf 24 (.int .u64 (q:Int))) (h0:J [] W):
  CallsIn Fence.wide n Tryz.prog 193 #[.func (.yield l) #[] #[], .pointer (some ⟨Bc,0,none⟩), .pointer (some ⟨Bf,0,none⟩)] W fun e W'=>(∃v,e= .returned v)∧
    ((∃ys,ys=List.range K∧J ys W')∨(∃pre,(∃j,pre=List.range (j+1)∧j<K)∧Jx pre W')):=by
 unfold I64 at hcn
 have HYY:=hD hY
 have HBB:=hD hBf
 have HKK:=hD hK
 clear hY hBf
 refine callsIn_of_wp func193 rfl trivial ?_ rfl
 simp only[ntmps193,List.size_toArray,List.length_cons,List.length_nil,Nat.reduceAdd,Nat.reduceSub,Array.replicate_succ,Array.replicate_zero,List.push_toArray,List.append_toArray,List.nil_append,List.cons_append]
 gi_wp2
 gi_loopw [6] (fun i wr=> ∃j:Nat,j≤K∧i= .int .i64 (j:Int)∧Hid (J (List.range j) wr∧KpB n₀ Bf W wr))
  (fun i _=>K- (intOf i).toNat)
 case atStart=>exact⟨0,Nat.zero_le _,rfl,h0,⟨Below.refl _ _,fun _ h=>h⟩⟩
 case round=>
  obtain⟨j,hj,rfl,hinv⟩:=hrel
  obtain⟨hJ,hKp⟩:=hinv.out
  by_cases hlt:j<K
  · have hj2:(j:Int)<cnt:=by omega
    have hbx:Boxed wr Bf 24 (.int .u64 (q:Int)):=hKp.2 _ HBB.out
    have hcb:=hbx.cell
    obtain⟨fn,tmps,assign,body,hy,hR⟩:=HYY.out (List.range j) j wr hJ (by rw[List.length_range];exact hlt)
    obtain⟨z,hz⟩: ∃z,(q+j) % 18446744073709551616=z:=⟨_,rfl⟩
    rw[hz]at hy
    have s1:IntKind.u64.wrap (j:Int)=(j:Int):=by rw[IntKind.wrap_u64];omega
    have s2:IntKind.u64.wrap ((q:Int)+(j:Int))=(z:Int):=by rw[IntKind.wrap_u64];omega
    have HR:=hD hR
    have HKP:=hD hKp
    have HS:Hid (List.range j++[j]=List.range (j+1)):=List.range_succ.symm
    clear hJ hKp hinv hR hz hbx
    gi_wp2
    refine HR.out.mono ?_
    rintro e W3 (⟨rfl,hJ3,hk3⟩|⟨rfl,hJx3⟩)
    · rw[HS.out]at hJ3
      have HJ3:=hD hJ3
      have HK3:=hD hk3
      clear hJ3 hk3
      gi_wp2
      go_roundw
      case rel=>exact⟨j+1,by omega,by go_num,HJ3.out,HKP.out.trans HK3.out⟩
      case measure=>simp[intOf];omega
    · rw[HS.out]at hJx3
      gi_wp2
      refine bodyPost_ret (results_none rfl _ _ _) rfl ?_
      exact⟨⟨_,rfl⟩, .inr ⟨_,⟨j,rfl,hlt⟩,hJx3⟩⟩
  · obtain rfl:j=K:=by omega
    have hj3: ¬(j:Int)<cnt:=by omega
    have HJ:=hD hJ
    clear hJ hKp hinv
    gi_wp2
    go_end0
    first|exact⟨⟨_,rfl⟩, .inl HJ.out⟩|exact⟨⟨_,rfl⟩, .inl ⟨_,rfl,HJ.out⟩⟩
def nextN(q k:Nat):Nat:=(q+k) % 18446744073709551616
theorem nonces_stops(n:Nat)(h1n:1≤n)(Bc Bf n₀ q:Nat)(hq:q<18446744073709551616)(cnt:Int)(K:Nat)(hcn:I64 cnt)(hK:cnt.toNat=K)(w:World)(hBc:Boxed w Bc 3 (.int .i64 cnt))(hBf:Boxed w Bf 24 (.int .u64 (q:Int))):
  SeqStopsK Fence.wide n Tryz.prog 193 #[.pointer (some ⟨Bc,0,none⟩), .pointer (some ⟨Bf,0,none⟩)] (fun k:Nat=> #[.int .u64 (nextN q k:Int)]) (KpB n₀ Bf) (fun ys=>ys=List.range K) (fun pre=> ∃j,pre=List.range (j+1)∧j<K) K w:=fun l J Jx W hW _ _ hY h0=>
 nonces1_in n h1n l Bc Bf n₀ q hq cnt K hcn hK J Jx hY W ((hW.cell (p:=⟨Bc,0,none⟩) hBc.lt).trans hBc.cell) ((hW.block Bf hBf.lt).trans hBf) h0
theorem callsR_nonces{q k:Int}{u:World}:Calls Tryz.prog 154 #[.int .u64 q, .int .i64 k] u (fun e w''=> ∃x N,e= .returned x∧(∃g1 g2,x= .func (.func 193) #[] #[.pointer (some ⟨g2,0,none⟩), .pointer (some ⟨g1,0,none⟩)]∧N=[(g2,oc #[.int .i64 k] 3),(g1,oc #[.int .u64 q] 24)])∧Below u.heap.size u w''∧ ∀y∈N,u.heap.size≤y.1∧w''.heap[y.1]?=some y.2):=by
 refine(nonces_any q k u).mono ?_
 rintro e w' ⟨rfl,rfl⟩
 refine⟨_,_,rfl,⟨_,_,rfl,rfl⟩,((Below.refl _ _).alloc (Nat.le_refl _) _).alloc (by simp) _,fun y hy=>?_⟩
 have E:=((EnvX.start u).two (.cells #[.int .u64 q] 24) (.cells #[.int .i64 k] 3))
 rcases List.mem_cons.1 hy with rfl|hy
 · exact⟨Nat.le_succ _,E.box _ _ mH⟩
 · cases mS.1 hy
   exact⟨Nat.le_refl _,E.box _ _ (mT mH)⟩
section
variable {a:Act}{dst:Option Tmp}{x y:Operand}{ty:TypeId}{pos:String}{after:Array Edge}{gd:Option (Nat × Bool)}
theorem minI_op{m k r:Int}(u:World)(hr:min m k=r)(hx:a.eval x= .int .i64 m)(hy:a.eval y= .int .i64 k):
  (execOp a.eval ⟨dst, .call {callee:= .builtin .min,args:= #[x,y],argTypes:= #[3,3]},ty,pos,after,gd⟩).run Tryz.prog u= .ok (.value (.int .i64 r)) u:=by
 subst hr
 unfold execOp
 simp only[resolve,invoke,builtin,Sem.run_bind,Sem.run_pure,Result.andThen_ok,List.map_toArray,List.map_cons,List.map_nil,hx,hy]
 go_simp
 all_goals (split<;>omega)
end
theorem oneBoolH: ∀w,(isAgg 4).run Tryz.prog w= .ok false w:=fun w=>by simp[isAgg,run_underlying underlying4]
theorem infoBoolH:(Tryz.prog.info? 4).map (·.size)=some 1:=by kernel_rfl
theorem hdA_put{h:Hd}(k:lenH h)(z:Nat):(hdA h).setIfInBounds 134 (.int .u64 (z:Int))=hdA {h with nonce:=z}:=by
 obtain⟨p,hp,hl⟩: ∃p:List Value,(∀n:Nat,hdC {h with nonce:=n}=p++[.int .u64 (n:Int)])∧p.length=134:=by
  refine⟨[.int .i64 h.height]++((arrB 32 h.prev).toList++((arrB 32 h.links).toList++((arrB 32 h.txs).toList++((arrB 32 h.past).toList++((wcs h.work).toList++[.int .u32 h.bits]))))),fun n=>?_,?_⟩
  · unfold hdC
    simp only[aA]
  · simp only[lA,idA_list k.1,idA_list k.2.1,idA_list k.2.2.1,idA_list k.2.2.2,wcs_list,List.length_cons,List.length_nil]
 have e1:hdC h=p++[.int .u64 (h.nonce:Int)]:=hp h.nonce
 unfold hdA
 rw[e1,hp z,List.setIfInBounds_toArray,List.set_append_right _ _ (by omega),hl]
 rfl
attribute [local go_sem] Oper.semAt_some
theorem hmine_any(h:Hd)(tries:Int)(w:World)(hh:okHd h)(ht:I64 tries)(hT:Tables w):
  Calls Tryz.prog 101 #[hdV h, .int .i64 tries] w fun e w'=>e= .returned (.tuple #[hdV (mineH h tries).1, .bool (mineH h tries).2])∧Below w.heap.size w w':=by
 have HL:=Lib.hid hh.len
 have HOK:=Lib.hid hh
 have HTB:=Lib.hid hT
 have HLE:Hid (w.heap.size≤w.heap.size+1):=by show _≤_;omega
 have HZN:Hid (lenH noHd):=⟨rfl,rfl,rfl,rfl⟩
 have HLE2:Hid (w.heap.size≤w.heap.size+1+1):=by show _≤_;omega
 obtain⟨K,hK⟩: ∃K,(min tries 200).toNat=K:=⟨_,rfl⟩
 have HK:=Lib.hid hK
 obtain⟨cnt,hcnt⟩: ∃cnt,min tries 200=cnt:=⟨_,rfl⟩
 have HCN:=Lib.hid hcnt
 have E1:Hid (EnvX w (((w.alloc (.cells (hdA h) 34)).alloc (.cells (hdA noHd) 34)).alloc (.cells #[.bool false] 4)) [(w.heap.size+1+1,Obj.cells #[.bool false] 4 (0,0)),(w.heap.size+1,Obj.cells (hdA noHd) 34 (0,0)),(w.heap.size,Obj.cells (hdA h) 34 (0,0))]):=by
  have k:=((EnvX.start w).two (.cells (hdA h) 34) (.cells (hdA noHd) 34)).new (.cells #[.bool false] 4)
  rwa[World.size_alloc,World.size_alloc]at k
 obtain⟨res,hres⟩: ∃res,mineH h tries=res:=⟨_,rfl⟩
 have HRES:=Lib.hid hres
 rw[hres]
 clear hres
 unfold I64 at ht
 clear hh hT
 unfold hdV
 refine(callsIn_wide (n:=4)).1 (callsIn_of_wp_marks func101 rfl trivial ((wpIn_wide (n:=4)).2 ?_) rfl)
 simp only[ntmps101,List.size_toArray,List.length_cons,List.length_nil,Nat.reduceAdd,Nat.reduceSub,Array.replicate_succ,Array.replicate_zero,List.push_toArray,List.append_toArray,List.nil_append,List.cons_append]
 go_upto_region 1 with (fail)
 rw[←zero_hdA]
 generalize ((w.alloc (.cells (hdA h) 34)).alloc (.cells (hdA noHd) 34)).alloc (.cells #[.bool false] 4)=W at *
 refine rgP [0] [1,2] E1 rfl ?_;intro hw1 hone
 (refine wpG_val (v:=hdV h) rfl rfl (fun u hu=>load_any_op u (box_hd hu (List.Mem.tail _ (List.Mem.tail _ (List.Mem.head _))) HL.out) rfl) ?_ hw1;intro K hK;go_big_quiet_op;go_big_quiet_on)
 clear hone hw1
 refine wpG_nil ?_
 refine(hOp_fresh (R:=fun x N=> ∃g,x= .pointer (some ⟨g,0,none⟩)∧N=[(g,Obj.cells (hdA noHd) 34 (0,0))]) (M0:=[(w.heap.size+1+1,Obj.cells #[.bool false] 4 (0,0)),(w.heap.size+1,Obj.cells (hdA noHd) 34 (0,0)),(w.heap.size,Obj.cells (hdA h) 34 (0,0))]) rfl rfl (fun _ h=>h) (fun u hu=>FAt_new (new_hd _) u) ?_)
 rintro _ _ ⟨gx,rfl,rfl⟩ hf he2;intro K' hK';go_big_quiet_op;go_big_quiet_on
 have HGX:=Lib.hid (hf _ (List.mem_singleton.2 rfl))
 clear hf
 change lexH _ _ _ _ _ _ [(gx,Obj.cells (hdA noHd) 34 (0,0)),(w.heap.size+1+1,Obj.cells #[.bool false] 4 (0,0)),(w.heap.size+1,Obj.cells (hdA noHd) 34 (0,0)),(w.heap.size,Obj.cells (hdA h) 34 (0,0))]
 refine(hOp_store rfl (gx) (hdA h) rfl rfl HGX.out.1 34 ((hdA noHd)) (List.Mem.head _) (infoHd _ (hdA_size HL.out)) ((hdA_size HZN.out).trans (hdA_size HL.out).symm) (hdA_one _) [(gx,Obj.cells (hdA h) 34 (0,0)),(w.heap.size+1+1,Obj.cells #[.bool false] 4 (0,0)),(w.heap.size+1,Obj.cells (hdA noHd) 34 (0,0)),(w.heap.size,Obj.cells (hdA h) 34 (0,0))] (List.forall_mem_cons.2 ⟨.inl rfl,fun y hy=> .inr ⟨List.mem_cons_of_mem _ hy,HGX.out.2 y hy⟩⟩) ?_)
 intro he3
 intro u5 E2'
 have EX4:=Lib.hid E2'
 clear E2'
 go_upto_region 2 with (fail)
 refine rgP [0,1,2,3] [4] EX4 rfl ?_;intro hw6 hone
 (refine wpG_op rfl rfl rfl ?_;intro K hK;go_big_quiet_op;go_big_quiet_on)
 (refine wpG_val (v:= .int .u64 (h.nonce:Int)) rfl rfl (fun u hu=>load_any_op u (box_hd_nonce hu (List.Mem.tail _ (List.Mem.tail _ (List.Mem.tail _ (List.Mem.head _)))) HL.out) rfl) ?_ hw6;intro K hK;go_big_quiet_op;go_big_quiet_on)
 (refine wpG_op rfl rfl rfl ?_;intro K hK;go_big_quiet_op;go_big_quiet_on)
 (refine wpG_val (v:= .int .i64 cnt) rfl rfl (fun u hu=>minI_op u HCN.out rfl rfl) ?_ hw6;intro K hK;go_big_quiet_op;go_big_quiet_on)
 clear hone hw6
 refine wpG_nil ?_
 refine(hOp_fresh (R:=fun x N=> ∃g1 g2,x= .func (.func 193) #[] #[.pointer (some ⟨g2,0,none⟩), .pointer (some ⟨g1,0,none⟩)]∧N=[(g2,Obj.cells #[.int .i64 cnt] 3 (0,0)),(g1,Obj.cells #[.int .u64 (h.nonce:Int)] 24 (0,0))]) (M0:=[(gx,Obj.cells (hdA h) 34 (0,0)),(w.heap.size+1+1,Obj.cells #[.bool false] 4 (0,0)),(w.heap.size+1,Obj.cells (hdA noHd) 34 (0,0)),(w.heap.size,Obj.cells (hdA h) 34 (0,0))]) rfl rfl (fun _ h=>h) (fun u hu=>FAt_call (fid:=154) (xs:= #[.tmp 10, .tmp 12]) (args:= #[.int .u64 (h.nonce:Int), .int .i64 cnt]) rfl func154 rfl rfl u (callsR_nonces)) ?_)
 rintro _ _ ⟨gf,gc,rfl,rfl⟩ hf he7;intro K' hK';go_big_quiet_op;go_big_quiet_on
 have HGC:=Lib.hid (hf _ (List.Mem.head _))
 have HGF:=Lib.hid (hf _ (List.Mem.tail _ (List.Mem.head _)))
 clear hf
 change lexH _ _ _ _ _ _ [(gc,Obj.cells #[.int .i64 cnt] 3 (0,0)),(gf,Obj.cells #[.int .u64 (h.nonce:Int)] 24 (0,0)),(gx,Obj.cells (hdA h) 34 (0,0)),(w.heap.size+1+1,Obj.cells #[.bool false] 4 (0,0)),(w.heap.size+1,Obj.cells (hdA noHd) 34 (0,0)),(w.heap.size,Obj.cells (hdA h) 34 (0,0))]
 refine enL fun u9 EX8=>?_
 clear he2 he3 EX4 E1
 have EX:=EX8.out
 clear EX8
 have hsz:=EX.bel.size
 have hnon:=HOK.out.2.2.2.2.2.2.2
 have hcn:I64 cnt:=by unfold I64;omega
 have hck:cnt.toNat=K:=by omega
 have HGX2:Hid (w.heap.size≤gx∧gx≠gc∧gx≠gf∧gx≠w.heap.size+1+1∧gx≠w.heap.size+1∧gx≠w.heap.size):=by
  have a1:=HGX.out.2 _ (List.Mem.head _)
  have a2:=HGX.out.2 _ (List.Mem.tail _ (List.Mem.head _))
  have a3:=HGX.out.2 _ (List.Mem.tail _ (List.Mem.tail _ (List.Mem.head _)))
  have b1:=HGC.out.2 _ (List.Mem.head _)
  have b2:=HGF.out.2 _ (List.Mem.head _)
  dsimp only at a1 a2 a3 b1 b2
  exact⟨HGX.out.1,b1,b2,Ne.symm a1,Ne.symm a2,Ne.symm a3⟩
 have HGF2:Hid (gf≠w.heap.size+1+1∧gf≠w.heap.size+1):=by
  have b1:=HGF.out.2 _ (List.Mem.tail _ (List.Mem.head _))
  have b2:=HGF.out.2 _ (List.Mem.tail _ (List.Mem.tail _ (List.Mem.head _)))
  dsimp only at b1 b2
  exact⟨Ne.symm b1,Ne.symm b2⟩
 have HCL:Hid (∀(m:Nat),∀x∈[(gc,Obj.cells #[.int .i64 cnt] 3 (0,0)),(gf,Obj.cells #[.int .u64 (h.nonce:Int)] 24 (0,0)),(gx,Obj.cells (hdA {h with nonce:=m}) 34 (0,0)),(w.heap.size+1+1,Obj.cells #[.bool false] 4 (0,0)),(w.heap.size+1,Obj.cells (hdA noHd) 34 (0,0)),(w.heap.size,Obj.cells (hdA h) 34 (0,0))],x.2.isCells=true):=fun m x hx=>by
  simp only[List.mem_cons,List.not_mem_nil,or_false]at hx
  rcases hx with rfl|rfl|rfl|rfl|rfl|rfl<;>rfl
 go_wp2_with fail
 refine(wpIn_wide (n:=4)).1 ?_
 refine wpIn_rangeFunc_ownF (F:=Fence.wide) (α:=Nat) (gf:=193) (lb:= #[.pointer (some ⟨gc,0,none⟩), .pointer (some ⟨gf,0,none⟩)]) rfl (by decide) rfl trivial (enters_of func193 (by kernel_rfl) rfl)
  (nonces_stops 3 (by decide) gc gf w.heap.size h.nonce hnon cnt K hcn hck u9 (EnvX.box EX _ _ (List.Mem.head _)) (EnvX.box EX _ _ (List.Mem.tail _ (List.Mem.head _)))) KpB.trans (KpB.put hsz (EnvX.lt EX (List.Mem.tail _ (List.Mem.head _)))) (Below.refl _ _) (fun _=>rfl)
  (fun pre W=>(∀x∈pre,mayH (nonceAt h x)=false)∧ ∃m:Nat,EnvX w W [(gc,Obj.cells #[.int .i64 cnt] 3 (0,0)),(gf,Obj.cells #[.int .u64 (h.nonce:Int)] 24 (0,0)),(gx,Obj.cells (hdA {h with nonce:=m}) 34 (0,0)),(w.heap.size+1+1,Obj.cells #[.bool false] 4 (0,0)),(w.heap.size+1,Obj.cells (hdA noHd) 34 (0,0)),(w.heap.size,Obj.cells (hdA h) 34 (0,0))])
  (fun c pre W=>c= .ret∧ ∃(pre':List Nat)(k:Nat),pre=pre'++[k]∧(∀x∈pre',mayH (nonceAt h x)=false)∧mayH (nonceAt h k)=true∧EnvX w W [(w.heap.size+1+1,Obj.cells #[.bool true] 4 (0,0)),(w.heap.size+1,Obj.cells (hdA (nonceAt h k)) 34 (0,0))])
  (fun s A B row hs hg hr=>⟨hs.1,hs.2.imp fun m he=>envx_turn he (HCL.out m) hsz hg hr⟩)
  (fun c s A B row hs hg hr=>⟨hs.1,hs.2.imp fun pre' hs=>hs.imp fun k hs=>⟨hs.1,hs.2.1,hs.2.2.1,envx_turn hs.2.2.2 (fun x hx=>by
   simp only[List.mem_cons,List.not_mem_nil,or_false]at hx
   rcases hx with rfl|rfl<;>rfl) hsz hg hr⟩⟩)
  ⟨(fun x hx=>by cases hx),h.nonce,EX⟩
  (fun k=>{tmps:= #[.agg (hdA h), .int .i64 tries, .pointer (some ⟨w.heap.size,0,none⟩),undef, .pointer (some ⟨w.heap.size+1,0,none⟩), .pointer (some ⟨w.heap.size+1+1,0,none⟩), .pointer (some ⟨gx,0,none⟩), .int .u64 (nextN h.nonce k:Int),hdV h, .pointer (some ⟨w.heap.size,134,none⟩), .int .u64 (h.nonce:Int), .int .i64 tries, .int .i64 cnt, .func (.func 193) #[] #[.pointer (some ⟨gc,0,none⟩), .pointer (some ⟨gf,0,none⟩)], .int .u64 (nextN h.nonce k:Int),undef,undef,undef,undef,undef,undef],defers:=[]}) ?assign ?body ?done ?stop
 case assign=>
  intro l k W K hK
  gi_wp2
  exact hK
 case body=>
  rintro l pre k W ⟨hno,m,hI⟩ hlen
  have r0:Row W gx 34 (hdA {h with nonce:=m}):=EnvX.box hI _ _ (List.Mem.tail _ (List.Mem.tail _ (List.Mem.head _)))
  have hc:W.cell? ⟨gx,134,none⟩=some (.int .u64 (m:Int)):=(r0.cell 134).trans (hdC_nonce (h:={h with nonce:=m}) HL.out)
  have hf:=r0.frozen 134
  refine wpIn_block (wpIn_seq ?_)
  refine region_round_list (by kernel_rfl) (fun h=>by obtain⟨_,_,h⟩:=h;exact h) ?_
  go_wp2
  have E1:Hid (EnvX w (W.setCell ⟨gx,134,none⟩ (.int .u64 (nextN h.nonce k:Int))) [(gc,Obj.cells #[.int .i64 cnt] 3 (0,0)),(gf,Obj.cells #[.int .u64 (h.nonce:Int)] 24 (0,0)),(gx,Obj.cells (hdA (nonceAt h k)) 34 (0,0)),(w.heap.size+1+1,Obj.cells #[.bool false] 4 (0,0)),(w.heap.size+1,Obj.cells (hdA noHd) 34 (0,0)),(w.heap.size,Obj.cells (hdA h) 34 (0,0))]):=by
   refine⟨hI.bel.setCell (p:=⟨gx,134,none⟩) HGX2.out.1 _,fun g o hm=>?_⟩
   have hne: ∀g' o',(g',o')∈[(gc,Obj.cells #[.int .i64 cnt] 3 (0,0)),(gf,Obj.cells #[.int .u64 (h.nonce:Int)] 24 (0,0)),(gx,Obj.cells (hdA {h with nonce:=m}) 34 (0,0)),(w.heap.size+1+1,Obj.cells #[.bool false] 4 (0,0)),(w.heap.size+1,Obj.cells (hdA noHd) 34 (0,0)),(w.heap.size,Obj.cells (hdA h) 34 (0,0))]→gx≠g'→(W.setCell ⟨gx,134,none⟩ (.int .u64 (nextN h.nonce k:Int))).heap[g']?=some o':=fun g' o' hm hn=>(Below.heap_setCell W ⟨gx,134,none⟩ _ g' (Ne.symm hn)).trans (hI.box g' o' hm)
   have hG:=HGX2.out.2
   simp only[List.mem_cons,Prod.mk.injEq,List.not_mem_nil,or_false]at hm
   rcases hm with ⟨rfl,rfl⟩|⟨rfl,rfl⟩|⟨rfl,rfl⟩|⟨rfl,rfl⟩|⟨rfl,rfl⟩|⟨rfl,rfl⟩
   · exact hne _ _ (List.Mem.head _) hG.1
   · exact hne _ _ (List.Mem.tail _ (List.Mem.head _)) hG.2.1
   · have:=r0.put 134 (.int .u64 (nextN h.nonce k:Int))
     rw[hdA_put (h:={h with nonce:=m}) HL.out]at this
     exact this
   · exact hne _ _ (List.Mem.tail _ (List.Mem.tail _ (List.Mem.tail _ (List.Mem.head _)))) hG.2.2.1
   · exact hne _ _ (List.Mem.tail _ (List.Mem.tail _ (List.Mem.tail _ (List.Mem.tail _ (List.Mem.head _))))) hG.2.2.2.1
   · exact hne _ _ (List.Mem.tail _ (List.Mem.tail _ (List.Mem.tail _ (List.Mem.tail _ (List.Mem.tail _ (List.Mem.head _)))))) hG.2.2.2.2
  have HKO:Hid (KeepsOthers W (W.setCell ⟨gx,134,none⟩ (.int .u64 (nextN h.nonce k:Int)))∧Below w.heap.size W (W.setCell ⟨gx,134,none⟩ (.int .u64 (nextN h.nonce k:Int)))):=⟨KeepsOthers.setCell _ _ _,(Below.refl _ _).setCell (p:=⟨gx,134,none⟩) HGX2.out.1 _⟩
  have HNO:=Lib.hid hno
  have HI:=Lib.hid hI
  have HLK:lenH (nonceAt h k):=HL.out
  have HWS:Hid (w.heap.size≤W.heap.size):=hI.bel.size
  clear hc hf r0 hno hI
  generalize W.setCell ⟨gx,134,none⟩ (.int .u64 (nextN h.nonce k:Int))=W1 at *
  refine wpIn_seq ?_
  refine region_round_list (by kernel_rfl) (fun h=>by obtain⟨_,_,h⟩:=h;exact h) ?_
  have HLD:Hid ((loadVar 34 ⟨gx,0,none⟩).run Tryz.prog W1= .ok (.agg (hdA (nonceAt h k))) W1):=box_hd E1.out (List.Mem.tail _ (List.Mem.tail _ (List.Mem.head _))) HLK
  go_wp2_with ((with_reducible refine wpList_load_run (o:=⟨some 17,_,_,_,_,_⟩) ?_ 34 (.tmp 6) ?_ ⟨gx,0,none⟩ ?_ HLD.out ?_);(rfl);(rfl);(rfl))
  refine(hmay_any (nonceAt h k) W1 (okHd_nonce HOK.out k) (HTB.out.below E1.out.bel)).mono ?_
  rintro e W2 ⟨rfl,hb2⟩
  have E2:Hid (EnvX w W2 [(gc,Obj.cells #[.int .i64 cnt] 3 (0,0)),(gf,Obj.cells #[.int .u64 (h.nonce:Int)] 24 (0,0)),(gx,Obj.cells (hdA (nonceAt h k)) 34 (0,0)),(w.heap.size+1+1,Obj.cells #[.bool false] 4 (0,0)),(w.heap.size+1,Obj.cells (hdA noHd) 34 (0,0)),(w.heap.size,Obj.cells (hdA h) 34 (0,0))]):=EnvX.below E1.out hb2
  have HKO2:Hid (KeepsOthers W W2∧Below w.heap.size W W2):=⟨HKO.out.1.trans (keepsOthers_below hb2),HKO.out.2.trans (hb2.mono (Nat.le_trans HWS.out HKO.out.2.size))⟩
  clear hb2 E1 HLD HKO
  cases hm:mayH (nonceAt h k)with
  |false=>
   have HNO2:Hid (∀x∈pre++[k],mayH (nonceAt h x)=false):=fun x hx=>by
     rcases List.mem_append.1 hx with hx|hx
     · exact HNO.out x hx
     · cases List.mem_singleton.1 hx
       exact hm
   clear hm
   go_wp2
   refine wpIn_cond_false rfl (wpIn_skip ?_)
   exact⟨HKO2.out.1,⟨HKO2.out.2,fun o ho=>by
     rw[EnvX.box HI.out _ _ (List.Mem.tail _ (List.Mem.head _))]at ho
     cases ho
     exact EnvX.box E2.out _ _ (List.Mem.tail _ (List.Mem.head _))⟩,HNO2.out,nextN h.nonce k,E2.out⟩
  |true=>
   go_wp2
   refine wpIn_cond_true rfl (wpIn_seq ?_)
   refine region_round_list (by kernel_rfl) (fun h=>by obtain⟨_,_,h⟩:=h;exact h) ?_
   have HM:=Lib.hid hm
   have HLD:Hid ((loadVar 34 ⟨gx,0,none⟩).run Tryz.prog W2= .ok (.agg (hdA (nonceAt h k))) W2):=box_hd E2.out (List.Mem.tail _ (List.Mem.tail _ (List.Mem.head _))) HLK
   have R1:Hid (W2.heap[w.heap.size+1]?=some (.cells (hdA noHd) 34 (0,0))):=EnvX.box E2.out _ _ (List.Mem.tail _ (List.Mem.tail _ (List.Mem.tail _ (List.Mem.tail _ (List.Mem.head _)))))
   have R2:Hid (Row (W2.setRow (w.heap.size+1) (hdA (nonceAt h k))) (w.heap.size+1+1) 4 #[.bool false]):=Row.setRowFar (EnvX.box E2.out _ _ (List.Mem.tail _ (List.Mem.tail _ (List.Mem.tail _ (List.Mem.head _))))) (by omega)
   have R3:Hid (Row (W2.setRow (w.heap.size+1) (hdA (nonceAt h k))) (w.heap.size+1) 34 (hdA (nonceAt h k))):=Row.setRow R1.out
   have hc2:=R2.out.cell 0
   have hf2:=R2.out.frozen 0
   have HK3:Hid (KeepsOthers W (W2.setRow (w.heap.size+1) (hdA (nonceAt h k)))∧Below w.heap.size W (W2.setRow (w.heap.size+1) (hdA (nonceAt h k)))):=⟨HKO2.out.1.trans (KeepsOthers.setRow' R1.out),below_setRow HKO2.out.2 (Nat.le_succ _) _⟩
   have hszk:Hid ((hdA (nonceAt h k)).size=135):=hdA_size HLK
   have hsz0:Hid ((hdA noHd).size=135):=hdA_size HZN.out
   have ho:=Lib.hid (hdA_one (nonceAt h k))
   clear hm E2 HKO2
   generalize hE2:hdA (nonceAt h k)=cs at *
   have HE:=Lib.hid hE2
   clear hE2
   generalize hdA noHd=zs at *
   go_wp2_with (first
     |((with_reducible refine wpList_load_run (o:=⟨some 19,_,_,_,_,_⟩) ?_ 34 (.tmp 6) ?_ ⟨gx,0,none⟩ ?_ HLD.out ?_);(rfl);(rfl);(rfl))
     |((with_reducible refine wpList_store_row (o:=⟨none, .store 34 _ _,_,_,_,_⟩) ?_ 34 (.tmp 4) (.tmp 19) ?_ (w.heap.size+1) cs ?_ ?_ 34 zs R1.out (infoHd cs hszk.out) (by rw[hsz0.out,hszk.out]) ho.out ?_);(rfl);(rfl);(rfl);(rfl)))
   refine wpIn_ret ?_
   refine⟨HK3.out.1.trans (KeepsOthers.setCell _ _ _),rfl,pre,k,rfl,HNO.out,HM.out,⟨?_,fun g o hm=>?_⟩⟩
   · exact(HI.out.bel.trans HK3.out.2).setCell (p:=⟨w.heap.size+1+1,0,none⟩) (by show w.heap.size≤w.heap.size+1+1;omega) _
   · rw[HE.out]at hm
     simp only[List.mem_cons,Prod.mk.injEq,List.not_mem_nil,or_false]at hm
     rcases hm with ⟨rfl,rfl⟩|⟨rfl,rfl⟩
     · exact R2.out.put 0 (.bool true)
     · exact R3.out.farAt (by omega) _
 case done=>
  rintro D ys W hD rfl ⟨hno,m,hI⟩ hK
  have HMI:mineH h tries=(h,false):=mine_none (by rw[HK.out];exact fun j hj=>hno j (List.mem_range.2 hj))
  have hs1:=EnvX.lt EX (List.Mem.tail _ (List.Mem.tail _ (List.Mem.tail _ (List.Mem.tail _ (List.Mem.head _)))))
  have hs2:=EnvX.lt EX (List.Mem.tail _ (List.Mem.tail _ (List.Mem.tail _ (List.Mem.head _))))
  have HD:Hid (w.heap.size+1≠D∧w.heap.size+1+1≠D∧w.heap.size≤D):=⟨by omega,by omega,by omega⟩
  have EI:Hid (EnvX w W [(D,Obj.deferred (some [])),(w.heap.size+1+1,Obj.cells #[.bool false] 4 (0,0)),(w.heap.size+1,Obj.cells (hdA noHd) 34 (0,0)),(w.heap.size,Obj.cells (hdA h) 34 (0,0))]):=⟨hI.bel,fun g o hm=>(List.mem_cons.1 hm).elim (fun e=>by cases e;exact hK) (fun hm=>hI.box g o (List.mem_cons_of_mem _ (List.mem_cons_of_mem _ (List.mem_cons_of_mem _ hm))))⟩
  have HRE:Hid (res=(h,false)):=HRES.out.symm.trans HMI
  clear hno hI hK hs1 hs2 hD HMI EX
  go_upto_region 7 with (fail)
  refine rgP [0] [1,2] EI rfl ?_;intro hw701 hone
  (refine wpG_val (v:=hdV h) rfl rfl (fun u hu=>load_any_op u (box_hd hu (List.Mem.tail _ (List.Mem.tail _ (List.Mem.tail _ (List.Mem.head _)))) HL.out) rfl) ?_ hw701;intro K hK;go_big_quiet_op;go_big_quiet_on)
  clear hone hw701
  refine wpG_nil ?_
  refine(hOp_store rfl (w.heap.size+1) (hdA h) rfl rfl HLE.out 34 ((hdA noHd)) (List.Mem.tail _ (List.Mem.tail _ (List.Mem.head _))) (infoHd _ (hdA_size HL.out)) ((hdA_size HZN.out).trans (hdA_size HL.out).symm) (hdA_one _) [(w.heap.size+1,Obj.cells (hdA h) 34 (0,0)),(w.heap.size+1+1,Obj.cells #[.bool false] 4 (0,0)),(D,Obj.deferred (some []))] (List.forall_mem_cons.2 ⟨.inl rfl,List.forall_mem_cons.2 ⟨.inr ⟨(List.Mem.tail _ (List.Mem.head _)),(by show w.heap.size+1+1≠_;omega)⟩,List.forall_mem_cons.2 ⟨.inr ⟨(List.Mem.head _),(Ne.symm HD.out.1)⟩,(fun _ h=>by cases h)⟩⟩⟩) ?_)
  intro he702
  refine(hOp_putAt rfl (w.heap.size+1+1) (0) (.bool false) rfl rfl HLE2.out 4 (#[.bool false]) (#[.bool false]) (List.Mem.tail _ (List.Mem.head _)) infoBoolH (by decide) (by simp[Value.cells];rfl) rfl [(w.heap.size+1+1,Obj.cells (#[.bool false]) 4 (0,0)),(w.heap.size+1,Obj.cells (hdA h) 34 (0,0)),(D,Obj.deferred (some []))] (List.forall_mem_cons.2 ⟨.inl rfl,List.forall_mem_cons.2 ⟨.inr ⟨(List.Mem.head _),(by show w.heap.size+1≠_;omega)⟩,List.forall_mem_cons.2 ⟨.inr ⟨(List.Mem.tail _ (List.Mem.tail _ (List.Mem.head _))),(Ne.symm HD.out.2.1)⟩,(fun _ h=>by cases h)⟩⟩⟩) ?_)
  intro he703
  intro u705 E2'
  have EX704:=Lib.hid E2'
  clear E2'
  have EJ:=EX704.out
  clear EX704
  have hkD:=EnvX.box EJ _ _ (List.Mem.tail _ (List.Mem.tail _ (List.Mem.head _)))
  have hbelD:Hid (Below w.heap.size w (u705.putObj D (.deferred none))):=EJ.bel.trans (belowK_b (w:=w) (Nat.le_refl _) u705 D _ _ HD.out.2.2 hkD rfl rfl)
  have g1:(u705.putObj D (.deferred none)).heap[w.heap.size+1]?=some (.cells (hdA h) 34 (0,0)):=(World.putObj_heap_other HD.out.1).trans (EnvX.box EJ _ _ (List.Mem.tail _ (List.Mem.head _)))
  have g2:Row (u705.putObj D (.deferred none)) (w.heap.size+1+1) 4 #[.bool false]:=(World.putObj_heap_other HD.out.2.1).trans (EnvX.box EJ _ _ (List.Mem.head _))
  have HKD:=Lib.hid hkD
  have HG:=Lib.hid (And.intro g1 g2)
  clear EJ hkD g1 g2
  go_wp2
  refine⟨by simp, .inl ⟨_,_,rfl,run_takeDeferred HKD.out,?_⟩⟩
  exact⟨_,results_row_cell (p:=4) (q:=5) (ty:=34) (ty':=4) results101 _ _ (w.heap.size+1) (w.heap.size+1+1) 34 (hdA h) (0,0) _ rfl rfl (.bool false) (run_load_one oneBoolH _ (HG.out.2.cell 0)) HG.out.1 underlying34 rfl (infoHd _ (hdA_size HL.out)),by rw[HRE.out],hbelD.out⟩
 case stop=>
  rintro D c pre W hD ⟨j,hpre,hj⟩ ⟨rfl,pre',k,hpk,hno,hyes,hI⟩ hK
  obtain⟨rfl,hkj⟩:=List.append_inj' (hpk.symm.trans (hpre.trans List.range_succ)) rfl
  obtain rfl:k=j:=by simpa using hkj
  have HMI:mineH h tries=(nonceAt h k,true):=mine_some (by rw[HK.out];exact hj) (fun i hi=>hno i (List.mem_range.2 hi)) hyes
  have HLK:lenH (nonceAt h k):=HL.out
  have hs1:=EnvX.lt EX (List.Mem.tail _ (List.Mem.tail _ (List.Mem.tail _ (List.Mem.tail _ (List.Mem.head _)))))
  have hs2:=EnvX.lt EX (List.Mem.tail _ (List.Mem.tail _ (List.Mem.tail _ (List.Mem.head _))))
  have hbelD:Hid (Below w.heap.size w (W.putObj D (.deferred none))):=hI.bel.trans (belowK_b (w:=w) (Nat.le_refl _) W D _ _ (by omega) hK rfl rfl)
  have g1:(W.putObj D (.deferred none)).heap[w.heap.size+1]?=some (.cells (hdA (nonceAt h k)) 34 (0,0)):=(World.putObj_heap_other (by omega)).trans (EnvX.box hI _ _ (List.Mem.tail _ (List.Mem.head _)))
  have g2:Row (W.putObj D (.deferred none)) (w.heap.size+1+1) 4 #[.bool true]:=(World.putObj_heap_other (by omega)).trans (EnvX.box hI _ _ (List.Mem.head _))
  have HKD:=Lib.hid hK
  have HG:=Lib.hid (And.intro g1 g2)
  have HRE:Hid (res=(nonceAt h k,true)):=HRES.out.symm.trans HMI
  refine wpIn_ret ?_
  refine⟨by simp, .inl ⟨_,_,rfl,run_takeDeferred HKD.out,?_⟩⟩
  exact⟨_,results_row_cell (p:=4) (q:=5) (ty:=34) (ty':=4) results101 _ _ (w.heap.size+1) (w.heap.size+1+1) 34 (hdA (nonceAt h k)) (0,0) _ rfl rfl (.bool true) (run_load_one oneBoolH _ (HG.out.2.cell 0)) HG.out.1 underlying34 rfl (infoHd _ (hdA_size HLK)),by rw[HRE.out],hbelD.out⟩
theorem carry_okQ: ∀(r:List Tot)(x:Tot),okT x→okTs r→okTs (carryT x r)
 |[],x,hx,_=>fun t ht=>by cases mS.1 ht;exact hx
 |y::r,x,hx,hr=>by
  unfold carryT
  split
  · exact carry_okQ r _ join_ok (fun t ht=>hr t (mT ht))
  · intro t ht
    rcases List.mem_cons.1 ht with rfl|h
    · exact hx
    · exact hr t h
theorem app_okQ{p:List Tot}{x:Tot}(hp:okTs p)(hx:okT x):okTs (appT p x):=fun t ht=>by
 unfold appT at ht
 exact carry_okQ p.reverse x hx (fun s hs=>hp s (List.mem_reverse.1 hs)) t (List.mem_reverse.1 ht)
theorem up_okQ: ∀(r:List Tot)(x:Tot),okT x→okT (upT x r)
 |[],x,hx=>hx
 |y::r,x,_=>up_okQ r _ join_ok
theorem JLeft.own{w0 w:World}{l:List Tot}{v:Value}{M':Boxes}(h:JLeft w0 [] l v M')(hl:okTs l)(hE:EnvX w0 w M'):OwnT w w0.heap.size v l:=by
 obtain⟨N,rfl,hF,hn⟩:=h
 exact hF.own (flatT_len hl) (fun y hy=>⟨(hn y hy).1,EnvX.box hE _ _ (mL hy)⟩)
theorem mapp_any(p:List Tot)(leaf:Tot)(A:Option Addr)(n c:Nat)(w:World)(hl:p.length=n)(hn:n≤1000000)(hI:okTs p)(hlf:okT leaf)(hA:TotsIn w w.heap.size A p)(ht:Tables w):
  Calls Tryz.prog 30 #[.slice A n c,totV leaf] w fun e w'=>(∃v,e= .returned v∧OwnT w' w.heap.size v (appT p leaf))∧Below w.heap.size w w':=by
 have HPL:Hid ((p.map totC).flatten.length=n*37):=by show _=_;rw[flatT_len hI,hl]
 have HLF:=hD hlf
 have HNB:Hid (n≤1000000):=hn
 have HOK:=hD (app_okQ hI hlf)
 have HCL:Hid (∀u,Below w.heap.size w u→Calls Tryz.prog 64 #[.slice A n c] u fun e w'=>(∃v,e= .returned v∧w'.ownsRow u.heap.size 61 37 v n (p.map totC).flatten)∧Below u.heap.size u w'):=fun u hb=>mclone_any p A n c u hl hn hI (hA.up hb)
 have HJL:Hid (∀(v:Value)(N:Boxes)(u:World),FreshR 61 37 (n+1) ((p.map totC).flatten++totC leaf) v N→freshN w N []→EnvX w u (N++[])→Calls Tryz.prog 63 #[v, .func (.func 62) #[] #[]] u fun e w''=> ∃x' M',e= .returned x'∧EnvX w w'' M'∧JLeft w [] (appT p leaf) x' M'):=fun v N u hF hn2 hE=>by
  have hlen:p.reverse.length+1=n+1:=by rw[List.length_reverse,hl]
  have h:=jlA w [] p.reverse leaf v N u (fun t ht=>by
   rcases List.mem_cons.1 ht with rfl|h
   · exact hlf
   · exact hI t (List.mem_reverse.1 h)) (by rw[hlen];omega) (by
   rw[hlen,List.reverse_cons,List.reverse_reverse,List.map_append,List.flatten_append,List.map_singleton,List.flatten_singleton]
   exact hF) hn2 hE ht
  rw[jl_carry]at h
  exact h
 have E1:Hid (EnvX w (w.alloc (.cells (totA leaf) 61)) [(w.heap.size,oc (totA leaf) 61)]):=(EnvX.start w).new _
 clear hI hlf hA hl ht
 unfold totV
 go_enter func30,ntmps30
 go_upto_region 2 with (fail)
 generalize w.alloc (.cells (totA leaf) 61)=W at *
 refine rgK [0,2,5] 5 E1 rfl fun hw=>?_
 refine qo rfl hw ?_
 refine ql rfl mH HLF.out.len hw ?_
 refine qo rfl hw ?_
 refine wpG_nil<|anyH_twoFreshG (i:=1) (j:=3) (fun _ _ _ hM hh=>env_perm _ _ _ hM hh) (by kernel_rfl) (by kernel_rfl) (by kernel_rfl) rfl rfl (by decide) (by kernel_rfl) rfl rfl (FreshR 61 37 n (p.map totC).flatten) (BuiltR 61 (totC leaf)) [(w.heap.size,oc (totA leaf) 61)] [(w.heap.size,oc (totA leaf) 61)] (fun _ h=>h) (fun _ h=>h) (fun u hu=>FAt_call (fid:=64) (xs:= #[.tmp 6]) (args:= #[.slice A n c]) rfl func64 rfl rfl u (callsR_fresh (HCL.out u (EnvX.bel hu)))) (fun u hu=>FAt_buildR elTot (totC_len HLF.out.len) (totC_one _) rfl u) ?_
 rintro x1 N1 x2 N2 hF ⟨gb,rfl,rfl⟩ hf1 hf2 he2 K1 hK1;go_big_quiet_op;go_big_quiet_on;intro K' hK';go_big_quiet_op;go_big_quiet_on
 have HF:=hD hF
 have HN:=hD hf1
 clear hF
 clear hf1 hf2
 change anyH _ _ _ _ _ _ _ _ ((gb,oc (totC leaf).toArray 61)::(N1++((w.heap.size,oc (totA leaf) 61)::[])))
 refine aO 4 (hOp_own (gd:=none) (R:=GrownR w 61 37 (n+1) ((p.map totC).flatten++totC leaf) []) rfl rfl rfl rfl (fun u hu=>appX_op elTot (m:=1) [] hu HPL.out (by rw[Nat.one_mul];exact totC_len HLF.out.len) (totC_one _) HF.out (fun y hy=>⟨mT (mL hy),(HN.out y hy).1⟩) (src_box (k:=0) hu mH (by rw[List.drop_zero,List.take_length])) (fun _ h=>by cases h) (by have:=HNB.out;omega) rfl rfl) ?_)
 rintro x9 M' ⟨N2,rfl,hF2,hn2⟩ he3;intro K' hK';go_big_quiet_op;go_big_quiet_on
 have HF2:=hD (And.intro hF2 hn2)
 clear hF2 hn2
 change anyH _ _ _ _ _ _ _ _ (N2++[])
 refine aO 6 (hOp_turn (gd:=none) (R:=JLeft w [] (appT p leaf)) rfl rfl rfl rfl (fun u hu=>OUpon_call (fid:=63) (xs:= #[.tmp 10, .tmp 11]) (args:= #[x9, .func (.func 62) #[] #[]]) rfl func63 rfl rfl u (HJL.out x9 N2 u HF2.out.1 HF2.out.2 hu)) ?_)
 rintro x7 M' ⟨N7,rfl,hF7,hn7⟩ he4;intro K' hK';go_big_quiet_op;go_big_quiet_on
 have HJ:Hid (JLeft w [] (appT p leaf) x7 (N7++[])):=⟨N7,rfl,hF7,hn7⟩
 clear hF7 hn7
 refine phF [7] 0 rfl he4 fun hw=>?_
 refine qo rfl hw ?_
 refine eH fun u7 EX6=>?_
 go_wp2
 go_ret
 exact⟨⟨_,rfl,HJ.out.own HOK.out EX6.out⟩,EnvX.bel EX6.out⟩
theorem root_load{u:World}{g:Nat}{cur:Array Value}{x:Tot}(hu:Row u g 61 cur)(hx:okT x)(hc:cur.toList.take ([x].length*37)=([x].map totC).flatten):(loadVar 61 ((⟨g,0,none⟩:Addr).add (0*37))).run Tryz.prog u= .ok (totV x) u:=by
 have hok:okTs [x]:=fun t ht=>by cases mS.1 ht;exact hx
 obtain⟨a1,e1,h1⟩:=(row_tots (cap:=0) hu hok rfl hc).loads hok (k:=0) (by simp)
 cases e1
 exact(h1 u (EnvX.start u)).1
theorem mroot_any(p:List Tot)(A:Option Addr)(n c:Nat)(w:World)(hl:p.length=n)(hn:n≤1000000)(hI:okTs p)(hA:TotsIn w w.heap.size A p)(ht:Tables w):
   Rz 31 #[.slice A n c] w (totV (rootP p)):=by
 unfold Rz
 unfold totV
 have E1:Hid (EnvX w (w.alloc (.cells (totA zTot) 61)) [(w.heap.size,oc (totA zTot) 61)]):=(EnvX.start w).new _
 by_cases h0:n=0
 · subst h0
   obtain rfl:=List.eq_nil_of_length_eq_zero hl
   rw[show rootP []=noTot from rfl]
   have HOF:Hid (∀u g,Below w.heap.size w u→Parts u u.heap.size (some ⟨g,0,none⟩) [[4]]→Calls Tryz.prog 65 #[.slice (some ⟨g,0,none⟩) 1 1] u fun e w'=>e= .returned (idv (sumL [4]))∧Below u.heap.size u w'):=fun u g hb hP=>shaof_any (some ⟨g,0,none⟩) 1 1 [[4]] u rfl hP (by omega) (by decide) (ht.below hb)
   clear hI hA hl ht
   go_enter func31,ntmps31
   go_upto_region 2 with (fail)
   rw[zero_totA]
   generalize w.alloc (.cells (totA zTot) 61)=W at *
   refine wp_region_Hx (w0:=w) [0,1,2,3,4] [(w.heap.size,oc (totA zTot) 61)] rfl E1.out ?_
   refine(hOp_fresh (R:=fun v N=> ∃g,v= .slice (some ⟨g,0,none⟩) 1 1∧N=[(g,oc #[.int .u8 4] 5)]) (M0:=[(w.heap.size,oc (totA zTot) 61)]) rfl rfl (fun _ h=>h) (fun u hu=>FAt_byte1 4 u) ?_)
   rintro _ _ ⟨gt,rfl,rfl⟩ hf he1;intro K' hK';go_big_quiet_op;go_big_quiet_on
   clear hf
   change lexH _ _ _ _ _ _ [(gt,oc #[.int .u8 4] 5),(w.heap.size,oc (totA zTot) 61)]
   refine(hOp_fresh (R:=fun v N=> ∃g,v= .slice (some ⟨g,0,none⟩) 1 1∧N=[(g,oc #[.slice (some ⟨gt,0,none⟩) 1 1] 100)]) (M0:=[(gt,oc #[.int .u8 4] 5),(w.heap.size,oc (totA zTot) 61)]) rfl rfl (fun _ h=>h) (fun u hu=>FAt_rows1 rfl u) ?_)
   rintro _ _ ⟨gr,rfl,rfl⟩ hf he2;intro K' hK';go_big_quiet_op;go_big_quiet_on
   clear hf
   refine phE [2,3] [4] he2 fun hw=>?_
   refine qc rfl func65 (fun u hu=>HOF.out u gr (EnvX.bel hu) (parts_one (EnvX.lt hu mH) (by have h:=box_cell (k:=0) hu mH rfl;exact h) (boxR_bytes (cap:=1) hu (mT mH) rfl ⟨by decide,by decide,rfl,rfl⟩) (by intro x hx;cases mS.1 hx;omega))) hw ?_
   refine qv (v:= .agg (totA noTot)) rfl (fun u hu=>buildA_op u (built_totH (sumL_len _))) hw ?_
   refine wpG_nil<|(so rfl (Nat.le_refl _) (mT (mT mH)) (infoTot _ (totA_size noTot_ok.len)) (zTot_size.trans (totA_size noTot_ok.len).symm) (totA_one _) ?_)
   refine fun _=>enL fun u6 EX5=>?_
   have Q0:=hD (EnvX.box EX5.out _ _ mH)
   have HBEL:=hD EX5.out.bel
   clear EX5
   go_wp2_with ((with_reducible refine bodyPost_ret (v:= .agg (totA (noTot))) ?_ ?_ ?_);(exact results_cell_row (p:=2) (ty:=61) results31 _ _ w.heap.size 61 (totA (noTot)) (0,0) _ rfl Q0.out underlying61 rfl (infoTot _ (totA_size noTot_ok.len)));(rfl))
   exact HBEL.out
 · obtain⟨q,z,rfl⟩: ∃q z,p=q++[z]:=by
    rcases List.eq_nil_or_concat p with h|⟨q,z,h⟩
    · subst h;exact absurd hl.symm h0
    · exact⟨q,z,by rw[h,List.concat_eq_append]⟩
   have HRO:Hid (okT (rootP (q++[z]))):=by
    show okT _
    unfold rootP
    rw[List.reverse_append]
    exact up_okQ _ _ (hI z (mR (mS.2 rfl)))
   have HRT:rootP (q++[z])=upT z q.reverse:=by
    unfold rootP
    rw[List.reverse_append]
    rfl
   have HCL:Hid (∀u,Below w.heap.size w u→Calls Tryz.prog 64 #[.slice A n c] u fun e w'=>(∃v,e= .returned v∧w'.ownsRow u.heap.size 61 37 v n ((q++[z]).map totC).flatten)∧Below u.heap.size u w'):=fun u hb=>mclone_any (q++[z]) A n c u hl hn hI (hA.up hb)
   have HJL:Hid (∀(v:Value)(N:Boxes)(u:World),FreshR 61 37 n ((q++[z]).map totC).flatten v N→freshN w N [(w.heap.size,oc (totA zTot) 61)]→EnvX w u (N++[(w.heap.size,oc (totA zTot) 61)])→Calls Tryz.prog 63 #[v, .func (.func 66) #[] #[]] u fun e w''=> ∃x' M',e= .returned x'∧EnvX w w'' M'∧JLeft w [(w.heap.size,oc (totA zTot) 61)] [rootP (q++[z])] x' M'):=fun v N u hF hn2 hE=>by
    have hlen:q.reverse.length+1=n:=by rw[List.length_reverse,←hl,lA];rfl
    have h:=jlR w [(w.heap.size,oc (totA zTot) 61)] q.reverse z v N u (fun t ht=>by
      rcases List.mem_cons.1 ht with rfl|h
      · exact hI _ (mR (mS.2 rfl))
      · exact hI t (mL (List.mem_reverse.1 h))) (by rw[hlen];omega) (by
      rw[hlen,List.reverse_cons,List.reverse_reverse]
      exact hF) hn2 hE ht
    rw[jl_up]at h
    rw[HRT]
    exact h
   have h0': ¬(n:Int)=0:=by omega
   clear hI hA hl ht HRT h0
   generalize q++[z]=p at *
   go_enter func31,ntmps31
   go_upto_region 4 with (fail)
   rw[zero_totA]
   generalize w.alloc (.cells (totA zTot) 61)=W at *
   refine rgQ [0] [1,2,3,4,5,6] E1 rfl fun hw=>?_
   refine qo rfl hw ?_
   refine wpG_nil<|qr rfl func64 (fun u hu=>callsR_fresh (HCL.out u (EnvX.bel hu))) ?_
   rintro x N1 hF hf he2
   have HF:=hD hF
   have HN:=hD hf
   clear hF
   clear hf
   refine phE [2] [3,4,5,6] he2 fun hw=>?_
   refine qo rfl hw ?_
   refine wpG_nil<|(hOp_turn (gd:=none) (R:=JLeft w [(w.heap.size,oc (totA zTot) 61)] [rootP p]) rfl rfl rfl rfl (fun u hu=>OUpon_call (fid:=63) (xs:= #[.tmp 12, .tmp 13]) (args:= #[x, .func (.func 66) #[] #[]]) rfl func63 rfl rfl u (HJL.out x N1 u HF.out HN.out hu)) ?_)
   rintro x3 M' hJ he4;intro K' hK';go_big_quiet_op;go_big_quiet_on
   obtain⟨N3,rfl,hF3,hn3⟩:=hJ
   obtain⟨gr,cap,cur,rfl,rfl,hcur⟩|⟨_,_,h0,_⟩:=hF3
   case inr=>cases h0
   have HCUR:=hD hcur
   have HGR:=hD (hn3 _ (mS.2 rfl))
   have HLR:Hid (∀u,Row u gr 61 cur→(loadVar 61 ((⟨gr,0,none⟩:Addr).add (0*37))).run Tryz.prog u= .ok (.agg (totA (rootP p))) u):=fun u hu=>root_load hu HRO.out hcur.2.2.2
   clear hcur hn3
   refine phE [4,5] [6] he4 fun hw=>?_
   refine qv (v:= .pointer (some ((⟨gr,0,none⟩:Addr).add (0*37)))) rfl (fun u hu=>idxSl_op (i:=0) underlying38 aggTot.size (by simp) u rfl rfl) hw ?_
   refine qv rfl (fun u hu=>load_any_op u (HLR.out u (EnvX.row hu mH)) rfl) hw ?_
   refine wpG_nil<|(so rfl (Nat.le_refl _) (mT mH) (infoTot _ (totA_size HRO.out.len)) (zTot_size.trans (totA_size HRO.out.len).symm) (totA_one _) ?_)
   refine fun _=>enL fun u8 EX7=>?_
   have Q0:=hD (EnvX.box EX7.out _ _ mH)
   have HBEL:=hD EX7.out.bel
   clear EX7
   go_wp2_with ((with_reducible refine bodyPost_ret (v:= .agg (totA (rootP p))) ?_ ?_ ?_);(exact results_cell_row (p:=2) (ty:=61) results31 _ _ w.heap.size 61 (totA (rootP p)) (0,0) _ rfl Q0.out underlying61 rfl (infoTot _ (totA_size HRO.out.len)));(rfl))
   exact HBEL.out
theorem vwithLeaf(p:List Tot)(A:Option Addr)(n c:Nat)(h:Hd)(w:World)(hl:p.length=n)(hn:n≤1000000)(hI:okTs p)(hA:TotsIn w w.heap.size A p)(hh:okHd h)(ht:Tables w):
  Calls Tryz.prog 80 #[.slice A n c,hdV h] w fun e w'=>(∃v,e= .returned v∧w'.ownsRow w.heap.size 61 37 v (appT p (leafH h)).length ((appT p (leafH h)).map totC).flatten)∧Below w.heap.size w w':=by
 have HL:=hD hh.len
 have HOP:Hid (okTs (appT p (leafH h))):=app_ok hI (leafH_ok _)
 have HID:Hid (Rt w 32 #[hdV h] (idv (idH h))):=fun u hu=>hid_any h u hh (ht.below (EnvX.bel hu))
 have HWK:Hid (Rt w 106 #[hdV h] (.agg (wcs (workH h)))):=fun u hu=>hwork_any h u hh
 have HLF:Hid (Rt w 105 #[idv (idH h), .agg (wcs (workH h))] (totV (leafH h))):=fun u hu=>mleaf_any (idH h) (workH h) u (idH_id h) (workH_lt h)
 have HAP:Hid (∀u,EnvX w u []→Calls Tryz.prog 30 #[.slice A n c,totV (leafH h)] u fun e w'=>(∃v,e= .returned v∧w'.ownsRow u.heap.size 61 37 v (appT p (leafH h)).length (((appT p (leafH h)).map totC).flatten))∧Below u.heap.size u w'):=fun u hu=>mapp_any p (leafH h) A n c u hl hn hI (leafH_ok h) (CellsIn.up hA (EnvX.bel hu)) (ht.below (EnvX.bel hu))
 have E1:Hid (EnvX w (w.alloc (.cells (hdA h) 34)) [(w.heap.size,oc (hdA h) 34)]):=(EnvX.start w).new _
 clear hl hn hI hA hh ht
 unfold hdV
 go_enter func80,ntmps80
 go_upto_region 1 with (fail)
 generalize w.alloc (.cells (hdA h) 34)=W at *
 refine rgK [0,1,2,3,4,5] 2 E1 rfl fun hw=>?_
 refine qo rfl hw ?_
 refine ql rfl mH HL.out hw ?_
 refine qc rfl func32 (fun u hu=>HID.out u (nl hu)) hw ?_
 refine ql rfl mH HL.out hw ?_
 refine qc rfl func106 (fun u hu=>HWK.out u (nl hu)) hw ?_
 refine qc rfl func105 (fun u hu=>HLF.out u (nl hu)) hw ?_
 refine wpG_nil<|aO 6 (qr rfl func30 (fun u hu=>callsR_fresh (HAP.out u (nl hu))) ?_)
 rintro x N1 hF hf he2
 obtain⟨A1,c1,rfl,-,-⟩:=FreshR.formR hF
 have HF:=hD hF
 have HN:=hD (fun y hy=>(hf y hy).1)
 clear hF
 clear hf
 refine phF [7] 0 rfl he2 fun hw=>?_
 refine qo rfl hw ?_
 refine eH fun u5 EX4=>?_
 have HO:=hD (FreshR.own (w:=u5) (B:=w.heap.size) HF.out (by rw[flatT_len HOP.out]) (fun y hy=>⟨HN.out y hy,EnvX.box EX4.out _ _ (mL hy)⟩))
 have HBE:=hD (EnvX.bel EX4.out)
 go_wp2
 go_returns
 exact⟨⟨_,rfl,HO.out⟩,HBE.out⟩
theorem vmayHeight(h:Hd)(w:World)(hh:okHd h):
  Rz 100 #[hdV h] w (.bool (decide (h.height<48))):=by
 unfold Rz
 have HL:=hD hh.len
 obtain⟨b,hb⟩: ∃b,decide (h.height<48)=b:=⟨_,rfl⟩
 have C0:=hD hb
 have HF:=hD hb
 have E1:Hid (EnvX w (w.alloc (.cells (hdA h) 34)) [(w.heap.size,oc (hdA h) 34)]):=(EnvX.start w).new _
 clear hh hb
 unfold hdV
 go_enter func100,ntmps100
 go_upto_region 1 with (fail)
 generalize w.alloc (.cells (hdA h) 34)=W at *
 refine rgQ [0,1,2,3] [] E1 rfl fun hw=>?_
 refine qf rfl hw ?_
 refine qv rfl (fun u hu=>load_any_op u (loads_hd HL.out (box_list hu mH)).2.1 rfl) hw ?_
 refine qv rfl (fun u hu=>ltZ_op u C0.out rfl rfl) hw ?_
 refine qo rfl hw ?_
 refine enP fun u3 EX2=>?_
 have HBE:=hD (EnvX.bel EX2.out)
 go_wp2
 go_ret
 exact⟨by rw[HF.out];first|done|rfl,HBE.out⟩
theorem zero_plA:(#[Value.int IntKind.i64 0,Value.int IntKind.u8 0,Value.int IntKind.u8 0,Value.int IntKind.u8 0,Value.int IntKind.u8 0,Value.int IntKind.u8 0,Value.int IntKind.u8 0,Value.int IntKind.u8 0,Value.int IntKind.u8 0,Value.int IntKind.u8 0,Value.int IntKind.u8 0,Value.int IntKind.u8 0,Value.int IntKind.u8 0,Value.int IntKind.u8 0,Value.int IntKind.u8 0,Value.int IntKind.u8 0,Value.int IntKind.u8 0,Value.int IntKind.u8 0,Value.int IntKind.u8 0,Value.int IntKind.u8 0,Value.int IntKind.u8 0,Value.int IntKind.u8 0,Value.int IntKind.u8 0,Value.int IntKind.u8 0,Value.int IntKind.u8 0,Value.int IntKind.u8 0,Value.int IntKind.u8 0,Value.int IntKind.u8 0,Value.int IntKind.u8 0,Value.int IntKind.u8 0,Value.int IntKind.u8 0,Value.int IntKind.u8 0,Value.int IntKind.u8 0,Value.int IntKind.u32 0]:Array Value)=plA noHd:=rfl
theorem vplaceOf(h:Hd)(w:World)(hh:okHd h):
  Rz 179 #[hdV h] w (plV h):=by
 unfold Rz
 have HL:=hD hh.len
 have HLE:Hid (w.heap.size≤w.heap.size+1):=by show _≤_;omega
 have E1:Hid (EnvX w ((w.alloc (.cells (hdA h) 34)).alloc (.cells (plA noHd) 195)) [(w.heap.size+1,oc (plA noHd) 195),(w.heap.size,oc (hdA h) 34)]):=(EnvX.start w).two _ _
 clear hh
 unfold hdV plV
 go_enter func179,ntmps179
 go_upto_region 1 with (fail)
 rw[zero_plA]
 generalize (w.alloc (.cells (hdA h) 34)).alloc (.cells (plA noHd) 195)=W at *
 refine rgQ [0,1,2,3,4,5,6] [7] E1 rfl fun hw=>?_
 refine qf rfl hw ?_
 refine qv rfl (fun u hu=>load_any_op u (loads_hd HL.out (box_list hu (mT mH))).2.1 rfl) hw ?_
 refine qf rfl hw ?_
 refine qv rfl (fun u hu=>load_any_op u (loads_hd HL.out (box_list hu (mT mH))).2.2.1 rfl) hw ?_
 refine qf rfl hw ?_
 refine qv rfl (fun u hu=>load_any_op u (loads_hd HL.out (box_list hu (mT mH))).2.2.2.2.2.2.2.1 rfl) hw ?_
 refine qv (v:= .agg (plA h)) rfl (fun u hu=>buildA_op u (built_pl h HL.out)) hw ?_
 refine wpG_nil<|(so rfl HLE.out mH (infoPl _ (plA_size HL.out)) ((plA_size (h:=noHd) len_no).trans (plA_size HL.out).symm) (plA_one _) ?_)
 refine fun _=>enL fun u4 EX3=>?_
 have Q0:=hD (EnvX.box EX3.out _ _ mH)
 have HBEL:=hD EX3.out.bel
 clear EX3
 go_wp2_with ((with_reducible refine bodyPost_ret (v:= .agg (plA h)) ?_ ?_ ?_);(exact results_cell_row (p:=2) (ty:=195) results179 _ _ (w.heap.size+1) 195 (plA h) (0,0) _ rfl Q0.out underlying195 rfl (infoPl _ (plA_size HL.out)));(rfl))
 exact HBEL.out
theorem zero_roA:roA noHd=zeroCells198:=by kernel_rfl
theorem vrootsOf(h:Hd)(w:World)(hh:okHd h):
  Rz 180 #[hdV h] w (roV h):=by
 unfold Rz
 have HL:=hD hh.len
 have HLE:Hid (w.heap.size≤w.heap.size+1):=by show _≤_;omega
 have E1:Hid (EnvX w ((w.alloc (.cells (hdA h) 34)).alloc (.cells (roA noHd) 198)) [(w.heap.size+1,oc (roA noHd) 198),(w.heap.size,oc (hdA h) 34)]):=(EnvX.start w).two _ _
 clear hh
 unfold hdV roV
 go_enter func180,ntmps180
 go_upto_region 1 with (fail)
 rw[←zero_roA]
 generalize (w.alloc (.cells (hdA h) 34)).alloc (.cells (roA noHd) 198)=W at *
 refine rgQ [0,1,2,3,4,5,6] [7] E1 rfl fun hw=>?_
 refine qf rfl hw ?_
 refine qv rfl (fun u hu=>load_any_op u (loads_hd HL.out (box_list hu (mT mH))).2.2.2.2.1 rfl) hw ?_
 refine qf rfl hw ?_
 refine qv rfl (fun u hu=>load_any_op u (loads_hd HL.out (box_list hu (mT mH))).2.2.2.2.2.1 rfl) hw ?_
 refine qf rfl hw ?_
 refine qv rfl (fun u hu=>load_any_op u (loads_hd HL.out (box_list hu (mT mH))).2.2.2.2.2.2.1 rfl) hw ?_
 refine qv (v:= .agg (roA h)) rfl (fun u hu=>buildA_op u (built_ro h HL.out)) hw ?_
 refine wpG_nil<|(so rfl HLE.out mH (infoRo _ (roA_size HL.out)) ((roA_size (h:=noHd) len_no).trans (roA_size HL.out).symm) (roA_one _) ?_)
 refine fun _=>enL fun u4 EX3=>?_
 have Q0:=hD (EnvX.box EX3.out _ _ mH)
 have HBEL:=hD EX3.out.bel
 clear EX3
 go_wp2_with ((with_reducible refine bodyPost_ret (v:= .agg (roA h)) ?_ ?_ ?_);(exact results_cell_row (p:=2) (ty:=198) results180 _ _ (w.heap.size+1) 198 (roA h) (0,0) _ rfl Q0.out underlying198 rfl (infoRo _ (roA_size HL.out)));(rfl))
 exact HBEL.out
theorem vbehind(t:TipM)(l:List TxM)(A:Option Addr)(n c nonce:Nat)(w:World)(kt:TipOk w t)(mt:midTip t)(hl:l.length=n)(hnc:n≤c)(hcm:c≤maxLen)(hA:TxsIn w A l)(ml:midTxs l)(hno:nonce<18446744073709551616)(ht:Tables w):Hands 75 #[tipV t, .slice A n c, .int .u64 (nonce:Int)] w (RBlk ⟨nextK t.r (rsT l) nonce,linksK t.r,rsT l⟩):=by
 unfold Hands
 have HK:Hid (lenH t.b.h):=kt.b.h.len
 have HOK:Hid (okHd (nextK t.r (rsT l) nonce)):=nextK_ok (rsT l) (t:=t.r) kt.o3 kt.b.h.2.2.2.2.2.2.1 hno
 have HLE:Hid (w.heap.size≤w.heap.size+1):=by show _≤_;omega
 have HRO:Hid (len32 (rootP t.p)):=(root_ok kt.o3).len
 have hm1:=kt.l3
 have hm2:=kt.b.l1
 have hm3:=mt.1
 have hm4:=mt.2.1
 have hm5:=ml.1
 have HIX:Hid (isId (idH t.b.h)):=idH_id _
 have HRT:Hid (Rt w 31 #[.slice t.A3 t.n3 t.c3] (totV (rootP t.p))):=fun u hu=>mroot_any t.p t.A3 t.n3 t.c3 u kt.l3 (by omega) kt.o3 (CellsIn.up kt.m3 (EnvX.bel hu)) (ht.below (EnvX.bel hu))
 have HID:Hid (Rt w 32 #[hdV t.b.h] (idv (idH t.b.h))):=fun u hu=>hid_any t.b.h u kt.b.h (ht.below (EnvX.bel hu))
 have HLV:Hid (Rt w 35 #[hdV t.b.h] (.int .i64 (levelH t.b.h))):=fun u hu=>hlevel_any t.b.h u kt.b.h (ht.below (EnvX.bel hu))
 have HNX:Hid (∀u,EnvX w u []→Calls Tryz.prog 124 #[.slice t.b.A1 t.b.n1 t.b.c1,idv (idH t.b.h), .int .i64 (levelH t.b.h)] u fun e w'=>(∃v,e= .returned v∧w'.ownsRow u.heap.size 26 32 v (linksK t.r).length ((linksK t.r).flatten.map u8v))∧Below u.heap.size u w'):=fun u hu=>link_next t.b.l (idH t.b.h) (levelH t.b.h) t.b.A1 t.b.n1 t.b.c1 u kt.b.l1 (by omega) (levelH_i64 _) kt.b.o1 (idH_id _) (kt.b.m1.up (EnvX.bel hu))
 have HLR:Hid (∀u A1 c1,(linksK t.r).length≤c1→c1≤maxLen→IdsIn u u.heap.size A1 (linksK t.r)→EnvX w u []→Calls Tryz.prog 34 #[.slice A1 (linksK t.r).length c1] u fun e w'=>e= .returned (idv (rootT (leavesL (linksK t.r))))∧Below u.heap.size u w'):=fun u A1 c1 h1 h2 h3 hu=>vlink_root (linksK t.r) A1 _ c1 u rfl (by have:=linksK_len t.r;omega) h1 h2 (linksK_ids (t:=t.r) kt.b.o1) h3 (ht.below (EnvX.bel hu))
 have HCR:Hid (Rt w 81 #[.slice A n c] (idv (rootT (idsX (rsT l))))):=fun u hu=>prootX_any l A n c u hl (by omega) hnc hcm (hA.up (EnvX.bel hu)) (ht.below (EnvX.bel hu))
 have HCX:Hid (∀u,EnvX w u []→Hands 125 #[.slice A n c] u (RTxs l n)):=fun u hu=>vcopyTxs l A n c u hl (by omega) (hA.up (EnvX.bel hu)) ml.2
 have HLI:Hid (isIds (linksK t.r)):=linksK_ids (t:=t.r) kt.b.o1
 have E1:Hid (EnvX w ((w.alloc (.cells (tipA t) 41)).alloc (.cells (blkA noBlkM) 37)) [(w.heap.size+1,oc (blkA noBlkM) 37),(w.heap.size,oc (tipA t) 41)]):=(EnvX.start w).two _ _
 clear kt mt hl hnc hcm hA ml hno ht hm1 hm2 hm3 hm4 hm5
 unfold tipV
 go_enter func75,ntmps75
 go_upto_region 1 with (fail)
 rw[←zero_blkA]
 generalize (w.alloc (.cells (tipA t) 41)).alloc (.cells (blkA noBlkM) 37)=W at *
 refine rgK [0,1,2,3,4,5] 4 E1 rfl fun hw=>?_
 refine qw 2 hw ?_
 refine qv rfl (fun u hu=>load_any_op u (loads_hd HK.out (box_tip_hd hu (mT mH) HK.out)).1 rfl) hw ?_
 refine qf rfl hw ?_
 refine ql rfl (mT mH) HK.out hw ?_
 refine qc rfl func31 (fun u hu=>HRT.out u (nl hu)) hw ?_
 refine wpG_nil<|anyH_twoFreshG (i:=6) (j:=7) (fun _ _ _ hM hh=>env_perm _ _ _ hM hh) (by kernel_rfl) (by kernel_rfl) (by kernel_rfl) rfl rfl (by decide) (by kernel_rfl) rfl rfl (fun x N=> ∃g,x= .pointer (some ⟨g,0,none⟩)∧N=[(g,oc (hdA noHd) 34)]) (fun x N=> ∃g,x= .pointer (some ⟨g,0,none⟩)∧N=[(g,oc (totA zTot) 61)]) [(w.heap.size+1,oc (blkA noBlkM) 37),(w.heap.size,oc (tipA t) 41)] [(w.heap.size+1,oc (blkA noBlkM) 37),(w.heap.size,oc (tipA t) 41)] (fun _ h=>h) (fun _ h=>h) (fun u hu=>FAt_new (new_hd _) u) (fun u hu=>FAt_new (new_tot _) u) ?_
 rintro x1 N1 x2 N2 ⟨g7,rfl,rfl⟩ ⟨g8,rfl,rfl⟩ hf1 hf2 he2 K1 hK1;go_big_quiet_op;go_big_quiet_on;intro K' hK';go_big_quiet_op;go_big_quiet_on
 have HG7:=hD (hf1 _ (mS.2 rfl))
 have HG8:=hD (hf2 _ (mS.2 rfl))
 clear hf1 hf2
 change anyH _ _ _ _ _ _ _ _ [(g8,oc (totA zTot) 61),(g7,oc (hdA noHd) 34),(w.heap.size+1,oc (blkA noBlkM) 37),(w.heap.size,oc (tipA t) 41)]
 refine aO 8 (hOp_store rfl (g7) (hdA t.b.h) rfl rfl HG7.out.1 34 ((hdA noHd)) (mT mH) (infoHd _ (hdA_size HK.out)) ((hdA_size (h:=noHd) len_no).trans (hdA_size HK.out).symm) (hdA_one _) [(g7,oc (hdA t.b.h) 34),(g8,oc (totA zTot) 61),(w.heap.size+1,oc (blkA noBlkM) 37),(w.heap.size,oc (tipA t) 41)] (mA ⟨.inl rfl,mA ⟨.inr ⟨mH,fun h=>HG8.out.2 (g7,oc (hdA noHd) 34) mH h.symm⟩,fun y hy=> .inr ⟨mT (mT hy),HG7.out.2 y hy⟩⟩⟩) ?_)
 intro he3
 refine aO 9 (hOp_store rfl (g8) (totA (rootP t.p)) rfl rfl HG8.out.1 61 ((totA zTot)) (mT mH) (infoTot _ (totA_size HRO.out)) (zTot_size.trans (totA_size HRO.out).symm) (totA_one _) [(g8,oc (totA (rootP t.p)) 61),(g7,oc (hdA t.b.h) 34),(w.heap.size+1,oc (blkA noBlkM) 37),(w.heap.size,oc (tipA t) 41)] (mA ⟨.inl rfl,mA ⟨.inr ⟨mH,HG8.out.2 (g7,oc (hdA noHd) 34) mH⟩,fun y hy=> .inr ⟨mT (mT hy),HG8.out.2 y (mT hy)⟩⟩⟩) ?_)
 intro he4
 refine eM fun u6 EX5=>?_
 go_upto_region 2 with (fail)
 refine rgQ [0,1] [2,3] EX5 rfl fun hw=>?_
 refine ql rfl (mT mH) HK.out hw ?_
 refine qc rfl func32 (fun u hu=>HID.out u (nl hu)) hw ?_
 refine wpG_nil<|qn rfl (new_id _) fun g9 HG9 he8=>?_
 change lexH _ _ _ _ _ _ [(g9,oc (arrB 32 []) 26),(g8,oc (totA (rootP t.p)) 61),(g7,oc (hdA t.b.h) 34),(w.heap.size+1,oc (blkA noBlkM) 37),(w.heap.size,oc (tipA t) 41)]
 refine(sh rfl HG9 (info26 _ (arrB_size _ _ (by rw[HIX.out.1];omega))) ((arrB_size _ _ (by simp)).trans (arrB_size _ _ (by rw[HIX.out.1];omega)).symm) (arrB_one _ _) ?_)
 refine fun _=>enL fun u11 EX10=>?_
 go_upto_region 3 with (fail)
 refine rgK [0,1,2,3,4,5] 2 EX10 rfl fun hw=>?_
 refine qw 2 hw ?_
 refine ql rfl (mT (mT (mT (mT mH)))) HK.out hw ?_
 refine qv rfl (fun u hu=>load_run_op u (box_load hu mH HIX.out.1) rfl) hw ?_
 refine ql rfl (mT (mT mH)) HK.out hw ?_
 refine qc rfl func35 (fun u hu=>HLV.out u (nl hu)) hw ?_
 refine wpG_nil<|aO 6 (qr rfl func124 (fun u hu=>callsR_fresh (HNX.out u (nl hu))) ?_)
 rintro x N6 hF hf he13
 obtain⟨A6,c6,rfl,k1,k2⟩:=FreshR.formR hF
 have HF6:=hD (And.intro hF (And.intro k1 k2))
 have HN6:Hid (∀y∈N6,w.heap.size≤y.1∧y.1≠w.heap.size+1):=fun y hy=>⟨(hf y hy).1,fun h=>(hf y hy).2 _ (mT (mT (mT mH))) h.symm⟩
 clear hF k1 k2
 clear hf
 refine phF [7] 0 rfl he13 fun hw=>?_
 refine qo rfl hw ?_
 refine eH fun u16 EX15=>?_
 go_upto_region 4 with (fail)
 refine rgK [0,1,2,3,4,5,6,7,8,9,10,11,12,13,14,15,16,17] 3 EX15 rfl fun hw=>?_
 refine qf rfl hw ?_
 refine qv rfl (fun u hu=>load_any_op u (loads_hd HK.out (box_list hu (mR (mT (mT mH))))).2.1 rfl) hw ?_
 refine qv (v:= .int .i64 (nextK t.r (rsT l) nonce).height) rfl (fun u hu=>addZ_op u (show IntKind.i64.wrap (t.b.h.height+1)=(nextK t.r (rsT l) nonce).height from rfl) rfl rfl) hw ?_
 refine qv rfl (fun u hu=>load_run_op u (box_load hu (mR mH) HIX.out.1) rfl) hw ?_
 refine qo rfl hw ?_
 refine qc rfl func34 (fun u hu=>HLR.out u A6 c6 HF6.out.2.1 HF6.out.2.2 (fresh_idsB HF6.out.1 HLI.out (fun y hy=>EnvX.box hu _ _ (mL hy))) (nl hu)) hw ?_
 refine qo rfl hw ?_
 refine qc rfl func81 (fun u hu=>HCR.out u (nl hu)) hw ?_
 refine qf rfl hw ?_
 refine ql rfl (mR (mT mH)) HRO.out hw ?_
 refine qf rfl hw ?_
 refine ql rfl (mR (mT mH)) HRO.out hw ?_
 refine qf rfl hw ?_
 refine qv rfl (fun u hu=>load_any_op u (loads_hd HK.out (box_list hu (mR (mT (mT mH))))).2.2.2.2.2.2.2.1 rfl) hw ?_
 refine qo rfl hw ?_
 refine qv (v:= .agg (hdA (nextK t.r (rsT l) nonce))) rfl (fun u hu=>buildA_op u (built_hd (nextK t.r (rsT l) nonce) HOK.out.len)) hw ?_
 refine qw 2 hw ?_
 refine wpG_nil<|aO 18 (qr rfl func125 (fun u hu=>HCX.out u (nl hu)) ?_)
 rintro x N18 hF hf he18
 obtain⟨q8,A18,c18,rfl,k1,k2,kq,kr,kk⟩:=hF
 have HK1:=hD k1
 have HK2:=hD k2
 have HKQ:=hD kq
 have HKR:=hD kr
 have HKK:=hD kk
 have HN18:Hid (∀y∈N18,w.heap.size≤y.1∧y.1≠w.heap.size+1):=fun y hy=>⟨(hf y hy).1,fun h=>(hf y hy).2 _ (mR (mT (mT (mT mH)))) h.symm⟩
 clear k1 k2 kq kr kk
 clear hf
 refine phF [19] 1 rfl he18 fun hw=>?_
 refine qv (v:= .agg (blkA ⟨(nextK t.r (rsT l) nonce),linksK t.r,A6,(linksK t.r).length,c6,q8,A18,n,c18⟩)) rfl (fun u hu=>buildA_op u (built_blk (b:=⟨(nextK t.r (rsT l) nonce),linksK t.r,A6,(linksK t.r).length,c6,q8,A18,n,c18⟩) HOK.out.len)) hw ?_
 refine wpG_nil<|aO 20 (hOp_store rfl (w.heap.size+1) (blkA ⟨(nextK t.r (rsT l) nonce),linksK t.r,A6,(linksK t.r).length,c6,q8,A18,n,c18⟩) rfl rfl HLE.out 37 ((blkA noBlkM)) (mR (mR (mT (mT (mT mH))))) (infoBlk _ (blkA_size (b:=⟨(nextK t.r (rsT l) nonce),linksK t.r,A6,(linksK t.r).length,c6,q8,A18,n,c18⟩) HOK.out.len)) (blk_sizes (b:=⟨(nextK t.r (rsT l) nonce),linksK t.r,A6,(linksK t.r).length,c6,q8,A18,n,c18⟩) HOK.out.len) (blkA_one _) ((w.heap.size+1,oc (blkA ⟨(nextK t.r (rsT l) nonce),linksK t.r,A6,(linksK t.r).length,c6,q8,A18,n,c18⟩) 37)::(N18++(N6++[]))) (mA ⟨.inl rfl,fun y hy=> .inr ((List.mem_append.1 hy).elim (fun h=>⟨mL h,(HN18.out y h).2⟩) (fun h=>⟨mR (mL (by simpa using h)),(HN6.out y (by simpa using h)).2⟩))⟩) ?_)
 intro he20
 refine eM fun u22 EX21=>?_
 have HIS:Hid (∀w0 u M,EnvX w0 u M→(∀y∈N18++N6,y∈M)→IsBlk ⟨nextK t.r (rsT l) nonce,linksK t.r,rsT l⟩ ⟨(nextK t.r (rsT l) nonce),linksK t.r,A6,(linksK t.r).length,c6,q8,A18,n,c18⟩ u):=fun w0 u M hu hM=>⟨by show BlkR.mk _ _ (rsT q8)=BlkR.mk _ _ (rsT l);rw[HKR.out],⟨HOK.out,rfl,HF6.out.2,HLI.out,kept_ids HF6.out.1 rfl HLI.out w0 u M hu (fun y hy=>hM y (mR hy)),HKQ.out,⟨HK1.out,HK2.out⟩,HKK.out w0 u M hu (fun y hy=>hM y (mL hy))⟩⟩
 have HBX:Hid (∀y∈N18++N6,y∈((w.heap.size+1,oc (blkA ⟨(nextK t.r (rsT l) nonce),linksK t.r,A6,(linksK t.r).length,c6,q8,A18,n,c18⟩) 37)::(N18++(N6++[])))):=fun y hy=>mT (by simpa using hy)
 have HEX:=hD EX21.out
 have HFR:Hid (∀y∈N18++N6,w.heap.size≤y.1∧u22.heap[y.1]?=some y.2):=fun y hy=>⟨(List.mem_append.1 hy).elim (fun h=>(HN18.out y h).1) (fun h=>(HN6.out y h).1),EnvX.box HEX.out _ _ (HBX.out y hy)⟩
 have Q0:=hD (EnvX.box EX21.out _ _ mH)
 have HBEL:=hD EX21.out.bel
 go_wp2_with ((with_reducible refine bodyPost_ret (v:= .agg (blkA ⟨(nextK t.r (rsT l) nonce),linksK t.r,A6,(linksK t.r).length,c6,q8,A18,n,c18⟩)) ?_ ?_ ?_);(exact results_cell_row (p:=6) (ty:=37) results75 _ _ (w.heap.size+1) 37 (blkA ⟨(nextK t.r (rsT l) nonce),linksK t.r,A6,(linksK t.r).length,c6,q8,A18,n,c18⟩) (0,0) _ rfl Q0.out underlying37 rfl (infoBlk _ (blkA_size (b:=⟨(nextK t.r (rsT l) nonce),linksK t.r,A6,(linksK t.r).length,c6,q8,A18,n,c18⟩) HOK.out.len)));(rfl))
 first|exact⟨_,N18++N6,rfl,⟨⟨(nextK t.r (rsT l) nonce),linksK t.r,A6,(linksK t.r).length,c6,q8,A18,n,c18⟩,rfl,HIS.out,_,HIS.out _ _ _ HEX.out HBX.out⟩,HBEL.out,HFR.out⟩|exact⟨N18++N6,⟨⟨(nextK t.r (rsT l) nonce),linksK t.r,A6,(linksK t.r).length,c6,q8,A18,n,c18⟩,rfl,HIS.out,_,HIS.out _ _ _ HEX.out HBX.out⟩,HBEL.out,fun a b hy=>HFR.out (a,b) hy⟩
def ruleF:Nat→FuncId
  |0=>126
  |1=>127
  |2=>128
  |3=>129
  |_=>130
def ruleE:Nat→Int
  |0=>3
  |1=>5
  |2=>6
  |3=>7
  |_=>4
def ruleC(i:Nat):List Value:=[.func (.func (ruleF i)) #[] #[], .int .i64 (ruleE i)]
def ruleA(i:Nat):Array Value:=(ruleC i).toArray
def rulesC:List Value:=ruleC 0++(ruleC 1++(ruleC 2++(ruleC 3++ruleC 4)))
def rulesA:Array Value:=rulesC.toArray
theorem aggRS:AggT 157 2:=⟨fun w=>by simp[isAgg,run_underlying underlying157],by kernel_rfl⟩
theorem aggRA:AggT 158 10:=⟨fun w=>by simp[isAgg,run_underlying underlying158],by kernel_rfl⟩
theorem infoRS(cs:Array Value)(h:cs.size=2):(Tryz.prog.info? 157).map (·.size)=some cs.size:=by rw[h];exact aggRS.size
theorem infoRA(cs:Array Value)(h:cs.size=10):(Tryz.prog.info? 158).map (·.size)=some cs.size:=by rw[h];exact aggRA.size
theorem oneRF: ∀w,(isAgg 156).run Tryz.prog w= .ok false w:=fun w=>by simp[isAgg,run_underlying underlying156]
theorem oneEr: ∀w,(isAgg 42).run Tryz.prog w= .ok false w:=fun w=>by simp[isAgg,run_underlying underlying42]
theorem built_rs(f:FuncId)(k:Int):Tryz.prog.built 157 [(0, .func (.func f) #[] #[]),(1, .int .i64 k)]=some #[.func (.func f) #[] #[], .int .i64 k]:=by kernel_rfl
theorem built_ra:Tryz.prog.built 158 [(0, .agg (ruleA 0)),(1, .agg (ruleA 1)),(2, .agg (ruleA 2)),(3, .agg (ruleA 3)),(4, .agg (ruleA 4))]=some rulesA:=by kernel_rfl
theorem rulesA_one:rulesA.all (·.oneCell')=true:=by kernel_rfl
theorem ruleA_one(i:Nat):(ruleA i).all (·.oneCell')=true:=by
 rcases i with _|_|_|_|i
 all_goals kernel_rfl
def rule0A:Array Value:= #[.nilFunc, .int .i64 0]
def rules0A:Array Value:= #[.nilFunc, .int .i64 0, .nilFunc, .int .i64 0, .nilFunc, .int .i64 0, .nilFunc, .int .i64 0, .nilFunc, .int .i64 0]
section
variable {dst:Option Tmp}{ty:TypeId}{pos:String}{after:Array Edge}{gd:Option (Nat × Bool)}
theorem new_ra(a:Act):NewAt Tryz.prog ⟨dst, .alloc 158,ty,pos,after,gd⟩ a (.cells rules0A 158 (0,0)):=fun u=>by
 unfold rules0A
 go_simp
theorem new_rs(a:Act):NewAt Tryz.prog ⟨dst, .alloc 157,ty,pos,after,gd⟩ a (.cells rule0A 157 (0,0)):=fun u=>by
 unfold rule0A
 go_simp
end
theorem index_ra{i:Nat}(h:i<5)(w:World):(Instr.index 158 (.agg rulesA) (.int .i64 (i:Int))).run Tryz.prog w= .ok (.agg (ruleA i)) w:=by
 rcases i with _|_|_|_|_|i
 all_goals first|omega|kernel_rfl
section
variable {a:Act}{dst:Option Tmp}{x y:Operand}{ty:TypeId}{pos:String}{after:Array Edge}{gd:Option (Nat × Bool)}
theorem idxRA_op{i:Nat}(h:i<5)(u:World)(hx:a.eval x= .agg rulesA)(hy:a.eval y= .int .i64 (i:Int)):
  (execOp a.eval ⟨dst, .index 158 x y,ty,pos,after,gd⟩).run Tryz.prog u= .ok (.value (.agg (ruleA i))) u:=by
 unfold execOp
 simp only[hx,hy,Sem.run_bind,index_ra h u,Result.andThen_ok,Sem.run_pure]
theorem fieldRS_op{k:Nat}(hk:k<2){ad:Addr}(u:World)(hx:a.eval x= .pointer (some ad)):
  (execOp a.eval ⟨dst, .fieldAddr 157 x k,ty,pos,after,gd⟩).run Tryz.prog u= .ok (.value (.pointer (some (ad.add k)))) u:=by
 unfold execOp
 simp only[hx]
 rcases k with _|_|k
 all_goals first|omega|go_simp
end
section
variable {w0 u:World}{M:Boxes}{g i:Nat}{ty:TypeId}
theorem box_ra(hu:EnvC w0 M u)(hm:(g,oc rulesA ty)∈M):(loadVar 158 ⟨g,0,none⟩).run Tryz.prog u= .ok (.agg rulesA) u:=run_loadAgg aggRA rulesC rfl (box_list hu hm)
instance:Cell Tryz.prog rulesA 158 0 (.agg rulesA) (True):=⟨fun hu hm k=>box_ra hu hm⟩
theorem box_rsF(hu:EnvC w0 M u)(hm:(g,oc (ruleA i) ty)∈M):(loadVar 156 ⟨g,0,none⟩).run Tryz.prog u= .ok (.func (.func (ruleF i)) #[] #[]) u:=run_load_one oneRF u (box_cell hu hm rfl)
instance:Cell Tryz.prog (ruleA i) 156 0 (.func (.func (ruleF i)) #[] #[]) (True):=⟨fun hu hm k=>box_rsF hu hm⟩
theorem box_rsE(hu:EnvC w0 M u)(hm:(g,oc (ruleA i) ty)∈M):(loadVar 42 ⟨g,1,none⟩).run Tryz.prog u= .ok (.int .i64 (ruleE i)) u:=run_load_one oneEr u (box_cell hu hm rfl)
instance:Cell Tryz.prog (ruleA i) 42 1 (.int .i64 (ruleE i)) (True):=⟨fun hu hm k=>box_rsE hu hm⟩
end
theorem vhasRoom(b d:BlkM)(w:World)(hb:okHd b.h)(hd:okHd d.h):
  Rz 126 #[trV b d] w (.bool (decide (b.h.height<48))):=by
 unfold Rz
 have HB:=hD hb
 have HD:=hD hd
 have HMH:Hid (Rt w 100 #[hdV b.h] (.bool (decide (b.h.height<48)))):=fun u hu=>vmayHeight b.h u hb
 obtain⟨x,hx⟩: ∃x,decide (b.h.height<48)=x:=⟨_,rfl⟩
 have HF:=hD hx
 rw[hx]at HMH
 have E1:Hid (EnvX w (w.alloc (.cells (trA b d) 112)) [(w.heap.size,oc (trA b d) 112)]):=(EnvX.start w).new _
 clear hb hd hx
 unfold trV
 go_enter func126,ntmps126
 go_upto_region 1 with (fail)
 generalize w.alloc (.cells (trA b d) 112)=W at *
 refine rgQ [0,1,2,3,4] [] E1 rfl fun hw=>?_
 refine qw 2 hw ?_
 refine qv rfl (fun u hu=>load_any_op u (loads_hd HB.out.len (is_hd hu mH HB.out.len)).1 rfl) hw ?_
 refine qc rfl func100 (fun u hu=>HMH.out u (nl hu)) hw ?_
 refine qo rfl hw ?_
 refine enP fun u3 EX2=>?_
 have HBE:=hD (EnvX.bel EX2.out)
 go_wp2
 go_ret
 exact⟨by rw[HF.out];first|done|rfl,HBE.out⟩
theorem vhasPlace(b d:BlkM)(w:World)(hb:okHd b.h)(hd:okHd d.h):
  Rz 127 #[trV b d] w (.bool (eqPl b.h d.h)):=by
 unfold Rz
 have HB:=hD hb
 have HD:=hD hd
 have HP:Hid (∀u,EnvX w u []→ ∀h:Hd,okHd h→Calls Tryz.prog 179 #[hdV h] u fun e w'=>e= .returned (plV h)∧Below u.heap.size u w'):=fun u hu h hh=>vplaceOf h u hh
 obtain⟨x,hx⟩: ∃x,eqPl b.h d.h=x:=⟨_,rfl⟩
 have HF:=hD hx
 have HX:=hD hx
 have E1:Hid (EnvX w (w.alloc (.cells (trA b d) 112)) [(w.heap.size,oc (trA b d) 112)]):=(EnvX.start w).new _
 clear hb hd hx
 unfold trV
 go_enter func127,ntmps127
 go_upto_region 1 with (fail)
 generalize w.alloc (.cells (trA b d) 112)=W at *
 refine rgK [0,1,2,3,4,5,6,7,8,9] 0 E1 rfl fun hw=>?_
 refine qw 2 hw ?_
 refine qv rfl (fun u hu=>load_any_op u (loads_hd HB.out.len (is_hd hu mH HB.out.len)).1 rfl) hw ?_
 refine qc rfl func179 (fun u hu=>HP.out u (nl hu) b.h HB.out) hw ?_
 refine qf rfl hw ?_
 refine qf (o2:=137) rfl hw ?_
 refine qv rfl (fun u hu=>load_any_op u (loads_hd HD.out.len (must_hd hu mH HB.out.len HD.out.len)).1 rfl) hw ?_
 refine qc rfl func179 (fun u hu=>HP.out u (nl hu) d.h HD.out) hw ?_
 refine qv rfl (fun u hu=>eqlPl_op HB.out HD.out HX.out u rfl rfl) hw ?_
 refine qo rfl hw ?_
 refine eH fun u3 EX2=>?_
 have HBE:=hD (EnvX.bel EX2.out)
 go_wp2
 go_ret
 exact⟨by rw[HF.out];first|done|rfl,HBE.out⟩
theorem vhasRoots(b d:BlkM)(w:World)(hb:okHd b.h)(hd:okHd d.h):
  Rz 129 #[trV b d] w (.bool (eqRo b.h d.h)):=by
 unfold Rz
 have HB:=hD hb
 have HD:=hD hd
 have HP:Hid (∀u,EnvX w u []→ ∀h:Hd,okHd h→Calls Tryz.prog 180 #[hdV h] u fun e w'=>e= .returned (roV h)∧Below u.heap.size u w'):=fun u hu h hh=>vrootsOf h u hh
 obtain⟨x,hx⟩: ∃x,eqRo b.h d.h=x:=⟨_,rfl⟩
 have HF:=hD hx
 have HX:=hD hx
 have E1:Hid (EnvX w (w.alloc (.cells (trA b d) 112)) [(w.heap.size,oc (trA b d) 112)]):=(EnvX.start w).new _
 clear hb hd hx
 unfold trV
 go_enter func129,ntmps129
 go_upto_region 1 with (fail)
 generalize w.alloc (.cells (trA b d) 112)=W at *
 refine rgK [0,1,2,3,4,5,6,7,8,9] 0 E1 rfl fun hw=>?_
 refine qw 2 hw ?_
 refine qv rfl (fun u hu=>load_any_op u (loads_hd HB.out.len (is_hd hu mH HB.out.len)).1 rfl) hw ?_
 refine qc rfl func180 (fun u hu=>HP.out u (nl hu) b.h HB.out) hw ?_
 refine qf rfl hw ?_
 refine qf (o2:=137) rfl hw ?_
 refine qv rfl (fun u hu=>load_any_op u (loads_hd HD.out.len (must_hd hu mH HB.out.len HD.out.len)).1 rfl) hw ?_
 refine qc rfl func180 (fun u hu=>HP.out u (nl hu) d.h HD.out) hw ?_
 refine qv rfl (fun u hu=>eqlRo_op HB.out HD.out HX.out u rfl rfl) hw ?_
 refine qo rfl hw ?_
 refine eH fun u3 EX2=>?_
 have HBE:=hD (EnvX.bel EX2.out)
 go_wp2
 go_ret
 exact⟨by rw[HF.out];first|done|rfl,HBE.out⟩
theorem vhasWork(b d:BlkM)(w:World)(hb:okHd b.h)(hd:okHd d.h)(ht:Tables w):
  Rz 130 #[trV b d] w (.bool (mayH b.h)):=by
 unfold Rz
 have HB:=hD hb
 have HD:=hD hd
 have HMH:Hid (Rt w 155 #[hdV b.h] (.bool (mayH b.h))):=fun u hu=>hmay_any b.h u hb (ht.below (EnvX.bel hu))
 obtain⟨x,hx⟩: ∃x,mayH b.h=x:=⟨_,rfl⟩
 have HF:=hD hx
 rw[hx]at HMH
 have E1:Hid (EnvX w (w.alloc (.cells (trA b d) 112)) [(w.heap.size,oc (trA b d) 112)]):=(EnvX.start w).new _
 clear hb hd hx ht
 unfold trV
 go_enter func130,ntmps130
 go_upto_region 1 with (fail)
 generalize w.alloc (.cells (trA b d) 112)=W at *
 refine rgQ [0,1,2,3,4] [] E1 rfl fun hw=>?_
 refine qw 2 hw ?_
 refine qv rfl (fun u hu=>load_any_op u (loads_hd HB.out.len (is_hd hu mH HB.out.len)).1 rfl) hw ?_
 refine qc rfl func155 (fun u hu=>HMH.out u (nl hu)) hw ?_
 refine qo rfl hw ?_
 refine enP fun u3 EX2=>?_
 have HBE:=hD (EnvX.bel EX2.out)
 go_wp2
 go_ret
 exact⟨by rw[HF.out];first|done|rfl,HBE.out⟩
theorem vhasLinks(b d:BlkM)(w:World)(hb:okHd b.h)(hd:okHd d.h)(hl1:b.l.length=b.n1)(hl2:d.l.length=d.n1)(hc1:b.n1≤b.c1∧b.c1≤maxLen)(hc2:d.n1≤d.c1∧d.c1≤maxLen)(hi1:isIds b.l)(hi2:isIds d.l)(hn1:b.n1≤1000000)(hn2:d.n1≤1000000)(hA1:IdsIn w w.heap.size b.A1 b.l)(hA2:IdsIn w w.heap.size d.A1 d.l):
  Rz 128 #[trV b d] w (.bool (decide (b.l=d.l) && eqL b.h.links d.h.links)):=by
 unfold Rz
 have HB:=hD hb
 have HD:=hD hd
 have HEQ:Hid (Rt w 82 #[.slice b.A1 b.n1 b.c1, .slice d.A1 d.n1 d.c1] (.bool (decide (b.l=d.l)))):=fun u hu=>veqIds b.l d.l b.A1 d.A1 b.n1 b.c1 d.n1 d.c1 u hl1 hl2 hn1 hn2 hc1.1 hc1.2 hc2.1 hc2.2 hi1 hi2 (hA1.up (EnvX.bel hu)) (hA2.up (EnvX.bel hu))
 obtain⟨x,hx⟩: ∃x,decide (b.l=d.l)=x:=⟨_,rfl⟩
 obtain⟨y,hy⟩: ∃y,eqL b.h.links d.h.links=y:=⟨_,rfl⟩
 have HX:=hD hx
 have HY:=hD hy
 rw[hx]at HEQ
 have E1:Hid (EnvX w (w.alloc (.cells (trA b d) 112)) [(w.heap.size,oc (trA b d) 112)]):=(EnvX.start w).new _
 clear hb hd hl1 hl2 hc1 hc2 hi1 hi2 hn1 hn2 hA1 hA2 hx hy
 unfold trV
 go_enter func128,ntmps128
 go_upto_region 1 with (fail)
 generalize w.alloc (.cells (trA b d) 112)=W at *
 cases x with
 |false=>
  have HF:Hid ((decide (b.l=d.l) && eqL b.h.links d.h.links)=false):=by show _=_;rw[HX.out,HY.out];rfl
  refine rgQ [0,1,2,3,4,5,6,7,8,9,10,11,12,13,14,15,16,17,18] [] E1 rfl fun hw=>?_
  refine qw 2 hw ?_
  refine qv rfl (fun u hu=>load_any_op u (is_l hu mH HB.out.len) rfl) hw ?_
  refine qf rfl hw ?_
  refine qf (o2:=272) rfl hw ?_
  refine qv rfl (fun u hu=>load_any_op u (must_l hu mH HB.out.len HD.out.len) rfl) hw ?_
  refine qc rfl func82 (fun u hu=>HEQ.out u (nl hu)) hw ?_
  refine qw 12 hw ?_
  refine enP fun u3 EX2=>?_
  have HBE:=hD (EnvX.bel EX2.out)
  go_wp2
  go_ret
  exact⟨by rw[HF.out];first|done|rfl,HBE.out⟩
 |true=>
  have HF:Hid ((decide (b.l=d.l) && eqL b.h.links d.h.links)=y):=by show _=_;rw[HX.out,HY.out];rfl
  refine rgQ [0,1,2,3,4,5,6,7,8,9,10,11,12,13,14,15,16,17,18] [] E1 rfl fun hw=>?_
  refine qw 2 hw ?_
  refine qv rfl (fun u hu=>load_any_op u (is_l hu mH HB.out.len) rfl) hw ?_
  refine qf rfl hw ?_
  refine qf (o2:=272) rfl hw ?_
  refine qv rfl (fun u hu=>load_any_op u (must_l hu mH HB.out.len HD.out.len) rfl) hw ?_
  refine qc rfl func82 (fun u hu=>HEQ.out u (nl hu)) hw ?_
  refine qw 4 hw ?_
  refine qv rfl (fun u hu=>load_any_op u (loads_hd HB.out.len (is_hd hu mH HB.out.len)).2.2.2.1 rfl) hw ?_
  refine qf rfl hw ?_
  refine qf (o2:=137) rfl hw ?_
  refine qf (o2:=170) rfl hw ?_
  refine qv rfl (fun u hu=>load_any_op u (loads_hd HD.out.len (must_hd hu mH HB.out.len HD.out.len)).2.2.2.1 rfl) hw ?_
  refine qv rfl (fun u hu=>eqlb_op HB.out.len.2.1 HD.out.len.2.1 HY.out u rfl rfl) hw ?_
  refine qw 2 hw ?_
  refine enP fun u3 EX2=>?_
  have HBE:=hD (EnvX.bel EX2.out)
  go_wp2
  go_ret
  exact⟨by rw[HF.out];first|done|rfl,HBE.out⟩
def FK(x0 x1 x2 x3 x4:Bool):Nat:=if x0=false then 3 else if x1=false then 5 else if x2=false then 6 else if x3=false then 7 else if x4=false then 4 else 0
theorem vfault(b d:BlkM)(w:World)(hb:okHd b.h)(hd:okHd d.h)(hl1:b.l.length=b.n1)(hl2:d.l.length=d.n1)(hc1:b.n1≤b.c1∧b.c1≤maxLen)(hc2:d.n1≤d.c1∧d.c1≤maxLen)(hi1:isIds b.l)(hi2:isIds d.l)(hn1:b.n1≤1000000)(hn2:d.n1≤1000000)(hA1:IdsIn w w.heap.size b.A1 b.l)(hA2:IdsIn w w.heap.size d.A1 d.l)(ht:Tables w):
  Rz 76 #[trV b d] w (.int .i64 (FK (decide (b.h.height<48)) (eqPl b.h d.h) (decide (b.l=d.l) && eqL b.h.links d.h.links) (eqRo b.h d.h) (mayH b.h):Int)):=by
 unfold Rz
 have HB:=hD hb
 have HD:=hD hd
 have HC0:Hid (Rt w 126 #[trV b d] (.bool (decide (b.h.height<48)))):=fun u hu=>vhasRoom b d u hb hd
 have HC1:Hid (Rt w 127 #[trV b d] (.bool (eqPl b.h d.h))):=fun u hu=>vhasPlace b d u hb hd
 have HC2:Hid (Rt w 128 #[trV b d] (.bool (decide (b.l=d.l) && eqL b.h.links d.h.links))):=fun u hu=>vhasLinks b d u hb hd hl1 hl2 hc1 hc2 hi1 hi2 hn1 hn2 (hA1.up (EnvX.bel hu)) (hA2.up (EnvX.bel hu))
 have HC3:Hid (Rt w 129 #[trV b d] (.bool (eqRo b.h d.h))):=fun u hu=>vhasRoots b d u hb hd
 have HC4:Hid (Rt w 130 #[trV b d] (.bool (mayH b.h))):=fun u hu=>vhasWork b d u hb hd (ht.below (EnvX.bel hu))
 obtain⟨x0,hx0⟩: ∃x,(decide (b.h.height<48))=x:=⟨_,rfl⟩
 rw[hx0]at HC0 ⊢
 obtain⟨x1,hx1⟩: ∃x,(eqPl b.h d.h)=x:=⟨_,rfl⟩
 rw[hx1]at HC1 ⊢
 obtain⟨x2,hx2⟩: ∃x,(decide (b.l=d.l) && eqL b.h.links d.h.links)=x:=⟨_,rfl⟩
 rw[hx2]at HC2 ⊢
 obtain⟨x3,hx3⟩: ∃x,(eqRo b.h d.h)=x:=⟨_,rfl⟩
 rw[hx3]at HC3 ⊢
 obtain⟨x4,hx4⟩: ∃x,(mayH b.h)=x:=⟨_,rfl⟩
 rw[hx4]at HC4 ⊢
 have E1:Hid (EnvX w (w.alloc (.cells (trA b d) 112)) [(w.heap.size,oc (trA b d) 112)]):=(EnvX.start w).new _
 clear hb hd hl1 hl2 hc1 hc2 hi1 hi2 hn1 hn2 hA1 hA2 ht hx0 hx1 hx2 hx3 hx4
 unfold trV at *
 go_enter func76,ntmps76
 go_upto_region 1 with (fail)
 generalize w.alloc (.cells (trA b d) 112)=W at *
 refine rgQ [0,1,2,3,4,5] [6,7] E1 rfl fun hw=>?_
 refine qv (v:= .agg (ruleA 0)) rfl (fun u hu=>buildA_op u (built_rs _ _)) hw ?_
 refine qv (v:= .agg (ruleA 1)) rfl (fun u hu=>buildA_op u (built_rs _ _)) hw ?_
 refine qv (v:= .agg (ruleA 2)) rfl (fun u hu=>buildA_op u (built_rs _ _)) hw ?_
 refine qv (v:= .agg (ruleA 3)) rfl (fun u hu=>buildA_op u (built_rs _ _)) hw ?_
 refine qv (v:= .agg (ruleA 4)) rfl (fun u hu=>buildA_op u (built_rs _ _)) hw ?_
 refine qv (v:= .agg rulesA) rfl (fun u hu=>buildA_op u built_ra) hw ?_
 refine wpG_nil<|qn rfl (new_ra _) fun g3 HG3 he2=>?_
 change lexH _ _ _ _ _ _ [(g3,oc rules0A 158),(w.heap.size,oc (trA b d) 112)]
 refine(sh (cs:=rulesA) rfl HG3 (infoRA _ rfl) rfl rulesA_one ?_)
 refine fun _=>enL fun u5 EX4=>?_
 go_upto_region 2 with (fail)
 refine rgQ [0,1] [] EX4 rfl fun hw=>?_
 refine ql rfl mH trivial hw ?_
 refine qo rfl hw ?_
 refine enP fun u8 EX7=>?_
 have EJ:=hD EX7.out
 clear EX7 E1
 go_upto_region 3 with (fail)
 go_loopw [13] (fun iv u=> ∃i:Nat,i≤5∧iv= .int .i64 (i:Int)∧Hid (((0<i→x0=true)∧(1<i→x1=true)∧(2<i→x2=true)∧(3<i→x3=true)∧(4<i→x4=true))∧EnvX w u [(g3,oc (rulesA) 158),(w.heap.size,oc (trA b d) 112)])) (fun iv _=>5- (intOf iv).toNat)
 case atStart=>exact⟨0,by omega,rfl,⟨fun h=>absurd h (by omega),fun h=>absurd h (by omega),fun h=>absurd h (by omega),fun h=>absurd h (by omega),fun h=>absurd h (by omega)⟩,EJ.out⟩
 case round=>
  obtain⟨i,hi,rfl,hinv⟩:=hrel
  have EK:=hD hinv.out.2
  have HX:=hD hinv.out.1
  clear hinv EJ
  have hcs:i=0∨i=1∨i=2∨i=3∨i=4∨i=5:=by omega
  clear hi
  rcases hcs with rfl|rfl|rfl|rfl|rfl|rfl
  · have C2:Hid (decide (((0:Nat):Int)<5)=true):=by show _=_;decide
    go_upto_region 3 with (fail)
    refine rgQ [0] [] EK rfl fun hw=>?_
    refine qv rfl (fun u hu=>ltZ_op u C2.out rfl rfl) hw ?_
    refine enP fun u103 EX102=>?_
    go_upto_region 4 with (fail)
    refine rgQ [0] [1,2] EX102 rfl fun hw=>?_
    refine qv (v:= .agg (ruleA 0)) rfl (fun u hu=>idxRA_op (i:=0) (by decide) u rfl rfl) hw ?_
    refine wpG_nil<|qn rfl (new_rs _) fun g5 HG5 he105=>?_
    change lexH _ _ _ _ _ _ [(g5,oc rule0A 157),(g3,oc (rulesA) 158),(w.heap.size,oc (trA b d) 112)]
    refine(sh (cs:=ruleA 0) rfl HG5 (infoRS _ rfl) rfl (ruleA_one _) ?_)
    refine fun _=>enL fun u108 EX107=>?_
    cases x0 with
    |false=>
     go_upto_region 5 with (fail)
     refine rgP [0,1,2,3,4] [] EX107 rfl ?_;intro hw109 hone
     refine qv (v:= .pointer (some ⟨g5,0,none⟩)) rfl (fun u hu=>fieldRS_op (k:=0) (by decide) (ad:=⟨g5,0,none⟩) u rfl) ⟨_,hw109⟩ ?_
     refine qv rfl (fun u hu=>load_any_op u (box_rsF (i:=0) hu mH) rfl) ⟨_,hw109⟩ ?_
     refine qv rfl (fun u hu=>load_any_op u (box_tr hu (mT (mT mH)) HB.out.len HD.out.len) rfl) ⟨_,hw109⟩ ?_
     (refine wpG_callV (f:=126) (args:= #[.agg (trA b d)]) (caps:= #[]) (all:= #[.agg (trA b d)]) (v:= .bool false) rfl rfl rfl rfl rfl func126 rfl rfl (fun u hu=>HC0.out u (nl hu)) ?_ hw109;intro K hK;go_big_quiet_op;go_big_quiet_on)
     refine qo rfl ⟨_,hw109⟩ ?_
     clear hone hw109;refine enP fun u111 EX110=>?_
     go_upto_region 6 with (fail)
     refine rgQ [0,1,2] [] EX110 rfl fun hw=>?_
     refine qv (v:= .pointer (some ⟨g5,1,none⟩)) rfl (fun u hu=>fieldRS_op (k:=1) (by decide) (ad:=⟨g5,0,none⟩) u rfl) hw ?_
     refine qv rfl (fun u hu=>load_any_op u (box_rsE (i:=0) hu mH) rfl) hw ?_
     refine qo rfl hw ?_
     refine enP fun u114 EX113=>?_
     have HBE:=hD (EnvX.bel EX113.out)
     go_wp2
     go_ret
     exact⟨rfl,HBE.out⟩
    |true=>
     go_upto_region 5 with (fail)
     refine rgP [0,1,2,3,4] [] EX107 rfl ?_;intro hw109 hone
     refine qv (v:= .pointer (some ⟨g5,0,none⟩)) rfl (fun u hu=>fieldRS_op (k:=0) (by decide) (ad:=⟨g5,0,none⟩) u rfl) ⟨_,hw109⟩ ?_
     refine qv rfl (fun u hu=>load_any_op u (box_rsF (i:=0) hu mH) rfl) ⟨_,hw109⟩ ?_
     refine qv rfl (fun u hu=>load_any_op u (box_tr hu (mT (mT mH)) HB.out.len HD.out.len) rfl) ⟨_,hw109⟩ ?_
     (refine wpG_callV (f:=126) (args:= #[.agg (trA b d)]) (caps:= #[]) (all:= #[.agg (trA b d)]) (v:= .bool true) rfl rfl rfl rfl rfl func126 rfl rfl (fun u hu=>HC0.out u (nl hu)) ?_ hw109;intro K hK;go_big_quiet_op;go_big_quiet_on)
     refine qo rfl ⟨_,hw109⟩ ?_
     clear hone hw109;refine enP fun u111 EX110=>?_
     go_wp2
     go_roundw
     case rel=>exact⟨1,by omega,by go_num,⟨(fun _=>by simp),(fun h=>absurd h (by omega)),(fun h=>absurd h (by omega)),(fun h=>absurd h (by omega)),(fun h=>absurd h (by omega))⟩,EX110.out.sub (fun _ h=>mT h)⟩
     case measure=>simp[intOf]
  · have C2:Hid (decide (((1:Nat):Int)<5)=true):=by show _=_;decide
    obtain rfl:x0=true:=HX.out.1 (by omega)
    go_upto_region 3 with (fail)
    refine rgQ [0] [] EK rfl fun hw=>?_
    refine qv rfl (fun u hu=>ltZ_op u C2.out rfl rfl) hw ?_
    refine enP fun u203 EX202=>?_
    go_upto_region 4 with (fail)
    refine rgQ [0] [1,2] EX202 rfl fun hw=>?_
    refine qv (v:= .agg (ruleA 1)) rfl (fun u hu=>idxRA_op (i:=1) (by decide) u rfl rfl) hw ?_
    refine wpG_nil<|qn rfl (new_rs _) fun g5 HG5 he205=>?_
    change lexH _ _ _ _ _ _ [(g5,oc rule0A 157),(g3,oc (rulesA) 158),(w.heap.size,oc (trA b d) 112)]
    refine(sh (cs:=ruleA 1) rfl HG5 (infoRS _ rfl) rfl (ruleA_one _) ?_)
    refine fun _=>enL fun u208 EX207=>?_
    cases x1 with
    |false=>
     go_upto_region 5 with (fail)
     refine rgP [0,1,2,3,4] [] EX207 rfl ?_;intro hw209 hone
     refine qv (v:= .pointer (some ⟨g5,0,none⟩)) rfl (fun u hu=>fieldRS_op (k:=0) (by decide) (ad:=⟨g5,0,none⟩) u rfl) ⟨_,hw209⟩ ?_
     refine qv rfl (fun u hu=>load_any_op u (box_rsF (i:=1) hu mH) rfl) ⟨_,hw209⟩ ?_
     refine qv rfl (fun u hu=>load_any_op u (box_tr hu (mT (mT mH)) HB.out.len HD.out.len) rfl) ⟨_,hw209⟩ ?_
     (refine wpG_callV (f:=127) (args:= #[.agg (trA b d)]) (caps:= #[]) (all:= #[.agg (trA b d)]) (v:= .bool false) rfl rfl rfl rfl rfl func127 rfl rfl (fun u hu=>HC1.out u (nl hu)) ?_ hw209;intro K hK;go_big_quiet_op;go_big_quiet_on)
     refine qo rfl ⟨_,hw209⟩ ?_
     clear hone hw209;refine enP fun u211 EX210=>?_
     go_upto_region 6 with (fail)
     refine rgQ [0,1,2] [] EX210 rfl fun hw=>?_
     refine qv (v:= .pointer (some ⟨g5,1,none⟩)) rfl (fun u hu=>fieldRS_op (k:=1) (by decide) (ad:=⟨g5,0,none⟩) u rfl) hw ?_
     refine qv rfl (fun u hu=>load_any_op u (box_rsE (i:=1) hu mH) rfl) hw ?_
     refine qo rfl hw ?_
     refine enP fun u214 EX213=>?_
     have HBE:=hD (EnvX.bel EX213.out)
     go_wp2
     go_ret
     exact⟨rfl,HBE.out⟩
    |true=>
     go_upto_region 5 with (fail)
     refine rgP [0,1,2,3,4] [] EX207 rfl ?_;intro hw209 hone
     refine qv (v:= .pointer (some ⟨g5,0,none⟩)) rfl (fun u hu=>fieldRS_op (k:=0) (by decide) (ad:=⟨g5,0,none⟩) u rfl) ⟨_,hw209⟩ ?_
     refine qv rfl (fun u hu=>load_any_op u (box_rsF (i:=1) hu mH) rfl) ⟨_,hw209⟩ ?_
     refine qv rfl (fun u hu=>load_any_op u (box_tr hu (mT (mT mH)) HB.out.len HD.out.len) rfl) ⟨_,hw209⟩ ?_
     (refine wpG_callV (f:=127) (args:= #[.agg (trA b d)]) (caps:= #[]) (all:= #[.agg (trA b d)]) (v:= .bool true) rfl rfl rfl rfl rfl func127 rfl rfl (fun u hu=>HC1.out u (nl hu)) ?_ hw209;intro K hK;go_big_quiet_op;go_big_quiet_on)
     refine qo rfl ⟨_,hw209⟩ ?_
     clear hone hw209;refine enP fun u211 EX210=>?_
     go_wp2
     go_roundw
     case rel=>exact⟨2,by omega,by go_num,⟨(fun _=>by simp),(fun _=>by simp),(fun h=>absurd h (by omega)),(fun h=>absurd h (by omega)),(fun h=>absurd h (by omega))⟩,EX210.out.sub (fun _ h=>mT h)⟩
     case measure=>simp[intOf]
  · have C2:Hid (decide (((2:Nat):Int)<5)=true):=by show _=_;decide
    obtain rfl:x0=true:=HX.out.1 (by omega)
    obtain rfl:x1=true:=HX.out.2.1 (by omega)
    go_upto_region 3 with (fail)
    refine rgQ [0] [] EK rfl fun hw=>?_
    refine qv rfl (fun u hu=>ltZ_op u C2.out rfl rfl) hw ?_
    refine enP fun u303 EX302=>?_
    go_upto_region 4 with (fail)
    refine rgQ [0] [1,2] EX302 rfl fun hw=>?_
    refine qv (v:= .agg (ruleA 2)) rfl (fun u hu=>idxRA_op (i:=2) (by decide) u rfl rfl) hw ?_
    refine wpG_nil<|qn rfl (new_rs _) fun g5 HG5 he305=>?_
    change lexH _ _ _ _ _ _ [(g5,oc rule0A 157),(g3,oc (rulesA) 158),(w.heap.size,oc (trA b d) 112)]
    refine(sh (cs:=ruleA 2) rfl HG5 (infoRS _ rfl) rfl (ruleA_one _) ?_)
    refine fun _=>enL fun u308 EX307=>?_
    cases x2 with
    |false=>
     go_upto_region 5 with (fail)
     refine rgP [0,1,2,3,4] [] EX307 rfl ?_;intro hw309 hone
     refine qv (v:= .pointer (some ⟨g5,0,none⟩)) rfl (fun u hu=>fieldRS_op (k:=0) (by decide) (ad:=⟨g5,0,none⟩) u rfl) ⟨_,hw309⟩ ?_
     refine qv rfl (fun u hu=>load_any_op u (box_rsF (i:=2) hu mH) rfl) ⟨_,hw309⟩ ?_
     refine qv rfl (fun u hu=>load_any_op u (box_tr hu (mT (mT mH)) HB.out.len HD.out.len) rfl) ⟨_,hw309⟩ ?_
     (refine wpG_callV (f:=128) (args:= #[.agg (trA b d)]) (caps:= #[]) (all:= #[.agg (trA b d)]) (v:= .bool false) rfl rfl rfl rfl rfl func128 rfl rfl (fun u hu=>HC2.out u (nl hu)) ?_ hw309;intro K hK;go_big_quiet_op;go_big_quiet_on)
     refine qo rfl ⟨_,hw309⟩ ?_
     clear hone hw309;refine enP fun u311 EX310=>?_
     go_upto_region 6 with (fail)
     refine rgQ [0,1,2] [] EX310 rfl fun hw=>?_
     refine qv (v:= .pointer (some ⟨g5,1,none⟩)) rfl (fun u hu=>fieldRS_op (k:=1) (by decide) (ad:=⟨g5,0,none⟩) u rfl) hw ?_
     refine qv rfl (fun u hu=>load_any_op u (box_rsE (i:=2) hu mH) rfl) hw ?_
     refine qo rfl hw ?_
     refine enP fun u314 EX313=>?_
     have HBE:=hD (EnvX.bel EX313.out)
     go_wp2
     go_ret
     exact⟨rfl,HBE.out⟩
    |true=>
     go_upto_region 5 with (fail)
     refine rgP [0,1,2,3,4] [] EX307 rfl ?_;intro hw309 hone
     refine qv (v:= .pointer (some ⟨g5,0,none⟩)) rfl (fun u hu=>fieldRS_op (k:=0) (by decide) (ad:=⟨g5,0,none⟩) u rfl) ⟨_,hw309⟩ ?_
     refine qv rfl (fun u hu=>load_any_op u (box_rsF (i:=2) hu mH) rfl) ⟨_,hw309⟩ ?_
     refine qv rfl (fun u hu=>load_any_op u (box_tr hu (mT (mT mH)) HB.out.len HD.out.len) rfl) ⟨_,hw309⟩ ?_
     (refine wpG_callV (f:=128) (args:= #[.agg (trA b d)]) (caps:= #[]) (all:= #[.agg (trA b d)]) (v:= .bool true) rfl rfl rfl rfl rfl func128 rfl rfl (fun u hu=>HC2.out u (nl hu)) ?_ hw309;intro K hK;go_big_quiet_op;go_big_quiet_on)
     refine qo rfl ⟨_,hw309⟩ ?_
     clear hone hw309;refine enP fun u311 EX310=>?_
     go_wp2
     go_roundw
     case rel=>exact⟨3,by omega,by go_num,⟨(fun _=>by simp),(fun _=>by simp),(fun _=>by simp),(fun h=>absurd h (by omega)),(fun h=>absurd h (by omega))⟩,EX310.out.sub (fun _ h=>mT h)⟩
     case measure=>simp[intOf]
  · have C2:Hid (decide (((3:Nat):Int)<5)=true):=by show _=_;decide
    obtain rfl:x0=true:=HX.out.1 (by omega)
    obtain rfl:x1=true:=HX.out.2.1 (by omega)
    obtain rfl:x2=true:=HX.out.2.2.1 (by omega)
    go_upto_region 3 with (fail)
    refine rgQ [0] [] EK rfl fun hw=>?_
    refine qv rfl (fun u hu=>ltZ_op u C2.out rfl rfl) hw ?_
    refine enP fun u403 EX402=>?_
    go_upto_region 4 with (fail)
    refine rgQ [0] [1,2] EX402 rfl fun hw=>?_
    refine qv (v:= .agg (ruleA 3)) rfl (fun u hu=>idxRA_op (i:=3) (by decide) u rfl rfl) hw ?_
    refine wpG_nil<|qn rfl (new_rs _) fun g5 HG5 he405=>?_
    change lexH _ _ _ _ _ _ [(g5,oc rule0A 157),(g3,oc (rulesA) 158),(w.heap.size,oc (trA b d) 112)]
    refine(sh (cs:=ruleA 3) rfl HG5 (infoRS _ rfl) rfl (ruleA_one _) ?_)
    refine fun _=>enL fun u408 EX407=>?_
    cases x3 with
    |false=>
     go_upto_region 5 with (fail)
     refine rgP [0,1,2,3,4] [] EX407 rfl ?_;intro hw409 hone
     refine qv (v:= .pointer (some ⟨g5,0,none⟩)) rfl (fun u hu=>fieldRS_op (k:=0) (by decide) (ad:=⟨g5,0,none⟩) u rfl) ⟨_,hw409⟩ ?_
     refine qv rfl (fun u hu=>load_any_op u (box_rsF (i:=3) hu mH) rfl) ⟨_,hw409⟩ ?_
     refine qv rfl (fun u hu=>load_any_op u (box_tr hu (mT (mT mH)) HB.out.len HD.out.len) rfl) ⟨_,hw409⟩ ?_
     (refine wpG_callV (f:=129) (args:= #[.agg (trA b d)]) (caps:= #[]) (all:= #[.agg (trA b d)]) (v:= .bool false) rfl rfl rfl rfl rfl func129 rfl rfl (fun u hu=>HC3.out u (nl hu)) ?_ hw409;intro K hK;go_big_quiet_op;go_big_quiet_on)
     refine qo rfl ⟨_,hw409⟩ ?_
     clear hone hw409;refine enP fun u411 EX410=>?_
     go_upto_region 6 with (fail)
     refine rgQ [0,1,2] [] EX410 rfl fun hw=>?_
     refine qv (v:= .pointer (some ⟨g5,1,none⟩)) rfl (fun u hu=>fieldRS_op (k:=1) (by decide) (ad:=⟨g5,0,none⟩) u rfl) hw ?_
     refine qv rfl (fun u hu=>load_any_op u (box_rsE (i:=3) hu mH) rfl) hw ?_
     refine qo rfl hw ?_
     refine enP fun u414 EX413=>?_
     have HBE:=hD (EnvX.bel EX413.out)
     go_wp2
     go_ret
     exact⟨rfl,HBE.out⟩
    |true=>
     go_upto_region 5 with (fail)
     refine rgP [0,1,2,3,4] [] EX407 rfl ?_;intro hw409 hone
     refine qv (v:= .pointer (some ⟨g5,0,none⟩)) rfl (fun u hu=>fieldRS_op (k:=0) (by decide) (ad:=⟨g5,0,none⟩) u rfl) ⟨_,hw409⟩ ?_
     refine qv rfl (fun u hu=>load_any_op u (box_rsF (i:=3) hu mH) rfl) ⟨_,hw409⟩ ?_
     refine qv rfl (fun u hu=>load_any_op u (box_tr hu (mT (mT mH)) HB.out.len HD.out.len) rfl) ⟨_,hw409⟩ ?_
     (refine wpG_callV (f:=129) (args:= #[.agg (trA b d)]) (caps:= #[]) (all:= #[.agg (trA b d)]) (v:= .bool true) rfl rfl rfl rfl rfl func129 rfl rfl (fun u hu=>HC3.out u (nl hu)) ?_ hw409;intro K hK;go_big_quiet_op;go_big_quiet_on)
     refine qo rfl ⟨_,hw409⟩ ?_
     clear hone hw409;refine enP fun u411 EX410=>?_
     go_wp2
     go_roundw
     case rel=>exact⟨4,by omega,by go_num,⟨(fun _=>by simp),(fun _=>by simp),(fun _=>by simp),(fun _=>by simp),(fun h=>absurd h (by omega))⟩,EX410.out.sub (fun _ h=>mT h)⟩
     case measure=>simp[intOf]
  · have C2:Hid (decide (((4:Nat):Int)<5)=true):=by show _=_;decide
    obtain rfl:x0=true:=HX.out.1 (by omega)
    obtain rfl:x1=true:=HX.out.2.1 (by omega)
    obtain rfl:x2=true:=HX.out.2.2.1 (by omega)
    obtain rfl:x3=true:=HX.out.2.2.2.1 (by omega)
    go_upto_region 3 with (fail)
    refine rgQ [0] [] EK rfl fun hw=>?_
    refine qv rfl (fun u hu=>ltZ_op u C2.out rfl rfl) hw ?_
    refine enP fun u503 EX502=>?_
    go_upto_region 4 with (fail)
    refine rgQ [0] [1,2] EX502 rfl fun hw=>?_
    refine qv (v:= .agg (ruleA 4)) rfl (fun u hu=>idxRA_op (i:=4) (by decide) u rfl rfl) hw ?_
    refine wpG_nil<|qn rfl (new_rs _) fun g5 HG5 he505=>?_
    change lexH _ _ _ _ _ _ [(g5,oc rule0A 157),(g3,oc (rulesA) 158),(w.heap.size,oc (trA b d) 112)]
    refine(sh (cs:=ruleA 4) rfl HG5 (infoRS _ rfl) rfl (ruleA_one _) ?_)
    refine fun _=>enL fun u508 EX507=>?_
    cases x4 with
    |false=>
     go_upto_region 5 with (fail)
     refine rgP [0,1,2,3,4] [] EX507 rfl ?_;intro hw509 hone
     refine qv (v:= .pointer (some ⟨g5,0,none⟩)) rfl (fun u hu=>fieldRS_op (k:=0) (by decide) (ad:=⟨g5,0,none⟩) u rfl) ⟨_,hw509⟩ ?_
     refine qv rfl (fun u hu=>load_any_op u (box_rsF (i:=4) hu mH) rfl) ⟨_,hw509⟩ ?_
     refine qv rfl (fun u hu=>load_any_op u (box_tr hu (mT (mT mH)) HB.out.len HD.out.len) rfl) ⟨_,hw509⟩ ?_
     (refine wpG_callV (f:=130) (args:= #[.agg (trA b d)]) (caps:= #[]) (all:= #[.agg (trA b d)]) (v:= .bool false) rfl rfl rfl rfl rfl func130 rfl rfl (fun u hu=>HC4.out u (nl hu)) ?_ hw509;intro K hK;go_big_quiet_op;go_big_quiet_on)
     refine qo rfl ⟨_,hw509⟩ ?_
     clear hone hw509;refine enP fun u511 EX510=>?_
     go_upto_region 6 with (fail)
     refine rgQ [0,1,2] [] EX510 rfl fun hw=>?_
     refine qv (v:= .pointer (some ⟨g5,1,none⟩)) rfl (fun u hu=>fieldRS_op (k:=1) (by decide) (ad:=⟨g5,0,none⟩) u rfl) hw ?_
     refine qv rfl (fun u hu=>load_any_op u (box_rsE (i:=4) hu mH) rfl) hw ?_
     refine qo rfl hw ?_
     refine enP fun u514 EX513=>?_
     have HBE:=hD (EnvX.bel EX513.out)
     go_wp2
     go_ret
     exact⟨rfl,HBE.out⟩
    |true=>
     go_upto_region 5 with (fail)
     refine rgP [0,1,2,3,4] [] EX507 rfl ?_;intro hw509 hone
     refine qv (v:= .pointer (some ⟨g5,0,none⟩)) rfl (fun u hu=>fieldRS_op (k:=0) (by decide) (ad:=⟨g5,0,none⟩) u rfl) ⟨_,hw509⟩ ?_
     refine qv rfl (fun u hu=>load_any_op u (box_rsF (i:=4) hu mH) rfl) ⟨_,hw509⟩ ?_
     refine qv rfl (fun u hu=>load_any_op u (box_tr hu (mT (mT mH)) HB.out.len HD.out.len) rfl) ⟨_,hw509⟩ ?_
     (refine wpG_callV (f:=130) (args:= #[.agg (trA b d)]) (caps:= #[]) (all:= #[.agg (trA b d)]) (v:= .bool true) rfl rfl rfl rfl rfl func130 rfl rfl (fun u hu=>HC4.out u (nl hu)) ?_ hw509;intro K hK;go_big_quiet_op;go_big_quiet_on)
     refine qo rfl ⟨_,hw509⟩ ?_
     clear hone hw509;refine enP fun u511 EX510=>?_
     go_wp2
     go_roundw
     case rel=>exact⟨5,by omega,by go_num,⟨(fun _=>by simp),(fun _=>by simp),(fun _=>by simp),(fun _=>by simp),(fun _=>by simp)⟩,EX510.out.sub (fun _ h=>mT h)⟩
     case measure=>simp[intOf]
  · have C2:Hid (decide (((5:Nat):Int)<5)=false):=by show _=_;decide
    obtain rfl:x0=true:=HX.out.1 (by omega)
    obtain rfl:x1=true:=HX.out.2.1 (by omega)
    obtain rfl:x2=true:=HX.out.2.2.1 (by omega)
    obtain rfl:x3=true:=HX.out.2.2.2.1 (by omega)
    obtain rfl:x4=true:=HX.out.2.2.2.2 (by omega)
    go_upto_region 3 with (fail)
    refine rgQ [0] [] EK rfl fun hw=>?_
    refine qv rfl (fun u hu=>ltZ_op u C2.out rfl rfl) hw ?_
    refine enP fun u603 EX602=>?_
    go_upto_region 8 with (fail)
    refine rgQ [0] [] EX602 rfl fun hw=>?_
    refine qo rfl hw ?_
    refine enP fun u606 EX605=>?_
    have HBE:=hD (EnvX.bel EX605.out)
    go_wp2
    go_ret
    exact⟨rfl,HBE.out⟩
end Go.Proofs.YtojmeodoenkapaaGreatDoor
