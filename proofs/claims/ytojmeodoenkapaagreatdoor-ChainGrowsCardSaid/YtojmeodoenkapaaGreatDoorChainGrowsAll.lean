/-
  PROVED: the law stepladderlaw12.ChainGrows answers true for every input, and leaves its arguments as they were.
  Conditions: the two package-level tables of package sha hold at the call what their initialisers lay; the card ties that to the text of the program (a pruned copy of the project: the packages that the roots of this seat load).
-/
import Derived.Test.YtojmeodoenkapaaGreatDoorZk
import Derived.Deep.Strs
open Go.Proofs.Tryz
namespace Go.Proofs.YtojmeodoenkapaaGreatDoor
set_option maxRecDepth 20000
set_option maxHeartbeats 8000000
set_option linter.unusedVariables false
set_option linter.unusedSimpArgs false
open Go.RowKit
theorem CellsIn.take{w:World}{B:Nat}{A:Option Addr}{xs:List Value}(h:CellsIn w B A xs)(k:Nat):CellsIn w B A (xs.take k):=by
 intro hp
 rw[List.length_take]at hp
 obtain⟨ad,e,hb,hc⟩:=h (by omega)
 refine⟨ad,e,hb,fun j v hv=>hc j v ?_⟩
 have hj:j<k:=by
  rcases Nat.lt_or_ge j k with h'|h'
  · exact h'
  · rw[gN (by rw[List.length_take];omega)]at hv
    cases hv
 rwa[List.getElem?_take_of_lt hj]at hv
section
variable {st e:TypeId}{z bytes:Nat}{zero:Value}
variable {a:Act}{dst:Option Tmp}{x l h:Operand}{ty:TypeId}{pos:String}{after:Array Edge}{gd:Option (Nat × Bool)}
end
open Go.ChangeShapes Go.WideShapes Go.ChangeAt Go.RowKit Go.Deep
section
variable {H:Type}{enc:TypeId × Value→H}{W:World}{base:Nat}{spare:Nat→Bool}{held:Bool}{fuel:Nat}{cs:List Value}{x:DataW H × List MemPlace}
end
section
variable {H:Type}{enc:TypeId × Value→H}{W:World}{base:Nat}{v:Value}{d:DataW H}{p:List MemPlace}{fuel:Nat}{cs:List Value}{x:DataW H × List MemPlace}
theorem open_txs(hok:Value.okWide Tryz.prog W .any base 23 v)(h:DataW.Trod enc Tryz.prog W 0 (fun _=>true) true 23 v d p):
  ∃(a:Option Addr)(n c:Nat)(l:List TxM),v= .slice a n c∧l.length=n∧n≤c∧c≤maxLen∧TxsIn W a l:=by
 obtain⟨a,n,c,l,h1,h2,h3,h4,h5,h6⟩:=open_elems (ok:=TxOk W) (C:=txC) underlying23 ccellsTx (by decide) (fun t ht=>rfl) (fun _ _ _ h=>tx_cells h) hok h
 exact⟨a,n,c,l,h1,h2,h3,h4,⟨h6,h5⟩⟩
end
theorem mine_err{t:TipR}{l:List TxR}{nonce:Nat}{tries:Int}{b:BlkR}{e:Nat}(h:mineK t l nonce tries=(b,e+1)):b=noBlk:=by
 unfold mineK at h
 split at h
 · cases h;rfl
 · split at h
   · exact(congrArg Prod.fst h).symm
   · split at h
     · cases h;rfl
     · cases h
theorem tip_turn0{f:FuncId}{args:Array Value}{u w0:World}{r:TipR}{y:Value}(h:Calls Tryz.prog f args u fun e w'=>(∃t:TipM,e= .returned (.tuple #[tipV t,y])∧IsTip r t w')∧Below u.heap.size u w')(hu:EnvX w0 u []):
  Calls Tryz.prog f args u fun e w'=> ∃x M',e= .returned x∧EnvX w0 w' M'∧ ∃t N,x= .tuple #[tipV t,y]∧M'=N∧KeptB w0 N (IsTip r t)∧ ∃v,IsTip r t v:=
 (tip_turn h hu).mono fun e w'⟨x,M',he,hE,t,N,hx,hM,hk,hv⟩=>⟨x,M',he,hE,t,N,hx,by rw[hM,List.append_nil],hk,hv⟩
section
variable {l:List BlkR}
theorem grow_bad{t:List TxR}{n:Nat}(h:(growC l t n).2≠0):(growC l t n).1=l∧((checkC l).2=0∨(checkC l).2=(growC l t n).2):=by
 unfold growC at h ⊢
 split
 · exact⟨rfl, .inr rfl⟩
 · rename_i h1
   rw[if_neg h1]at h
   split
   · exact⟨rfl, .inl (Classical.not_not.1 h1)⟩
   · rename_i h2
     rw[if_neg h2]at h
     exact absurd rfl h
theorem grow_ok{t:List TxR}{n:Nat}(h:(growC l t n).2=0):(checkC l).2=0∧(growC l t n).1=l++[(mineK (checkC l).1 t n 200).1]∧(checkC (growC l t n).1).2=0∧(checkC (growC l t n).1).1.b.h.height=(l.length:Int):=by
 unfold growC at h ⊢
 split at h
 · rename_i h1
   exact absurd h h1
 · rename_i h1
   split at h
   · rename_i h2
     exact absurd h h2
   · rename_i h2
     have h1:=Classical.not_not.1 h1
     have h2:=Classical.not_not.1 h2
     rw[if_neg (fun k=>k h1),if_neg (fun k=>k h2)]
     have hne:l≠[]:=fun e=>by rw[e]at h1;exact absurd h1 (by decide)
     have hm:mineK (checkC l).1 t n 200=((mineK (checkC l).1 t n 200).1,0):=by rw[←h2]
     have hp:=mine_push hm
     have hc:(checkC (l++[(mineK (checkC l).1 t n 200).1])).2=0:=by
      rw[check_snoc hne]
      unfold stepC
      rw[if_pos h1,hp]
      rfl
     refine⟨h1,rfl,hc,?_⟩
     have hl:l.length<(l++[(mineK (checkC l).1 t n 200).1]).length:=by rw[lA];exact Nat.lt_succ_self _
     have e:=ch_last hc hl
     have e2:=(ch_height hc hl).1
     rw[←e]at e2
     unfold tipB at e2
     rw[show l.length+1=(l++[(mineK (checkC l).1 t n 200).1]).length by rw[lA];rfl,List.take_length]at e2
     exact e2
end
theorem rsB_take(l:List BlkM)(k:Nat):(rsB l).take k=rsB (l.take k):=List.map_take.symm
theorem BlksIn.take{w:World}{A:Option Addr}{l:List BlkM}(h:BlksIn w A l)(k:Nat):BlksIn w A (l.take k):=by
 refine⟨?_,fun t ht=>h.each t (List.mem_of_mem_take ht)⟩
 have e:((l.take k).map blkC).flatten=(l.map blkC).flatten.take (min k l.length*137):=by
  have hR:=rowsBk h
  rw[List.map_take]
  have key: ∀(r:List (List Value))(m:Nat),isRows 137 r→(r.take m).flatten=r.flatten.take (min m r.length*137):=by
   intro r
   induction r with
   |nil=>intro m _;simp
   | cons x r ih=>
    intro m hr
    have hx:x.length=137:=hr x (List.mem_cons_self ..)
    cases m with
    |zero=>simp
    |succ m=>
     have e:min (m+1) (r.length+1)*137=137+min m r.length*137:=by omega
     rw[List.take_succ_cons,List.flatten_cons,List.flatten_cons,ih m (fun y hy=>hr y (mT hy)),List.length_cons,e,List.take_append,hx,List.take_of_length_le (l:=x) (by rw[hx];omega),Nat.add_sub_cancel_left]
  rw[key _ k hR,lM]
 rw[e]
 exact h.cells.take _
theorem mine_midR{t:TipR}{l:List TxR}{nonce:Nat}{tries:Int}(h:l.length≤1000000∧ ∀x∈l,bigX x):midBlkR (mineK t l nonce tries).1:=by
 rcases hm:mineK t l nonce tries with ⟨b,e⟩
 cases e with
 |zero=>
  have h1:=mine_ok hm
  refine⟨?_,by rw[h1.2.2.2.1];exact h.1,by rw[h1.2.2.2.1];exact h.2⟩
  have:=linksK_len t
  rw[h1.2.2.1]
  omega
 |succ e=>rw[mine_err hm];exact noBlk_mid
theorem grow_midR{l:List BlkR}{t:List TxR}{nonce:Nat}(h:midRowR l)(hl:l.length≤99999)(ht:t.length≤1000000∧ ∀x∈t,bigX x):midRowR (growC l t nonce).1:=by
 unfold growC
 split
 · exact h
 · split
   · exact h
   · refine⟨by rw[lA];show l.length+1≤100000;omega,fun b hb=>?_⟩
     rcases List.mem_append.1 hb with hb|hb
     · exact h.2 b hb
     · cases mS.1 hb
       exact mine_midR ht
theorem midTxs_R{l:List TxM}(h:midTxs l):(rsT l).length≤1000000∧ ∀x∈rsT l,bigX x:=by
 unfold rsT
 rw[lM]
 exact⟨h.1,fun x hx=>by obtain⟨y,hy,rfl⟩:=List.mem_map.1 hx;exact h.2 y hy⟩
theorem RowOk.first{w:World}{m:RowM}(h:RowOk w m){k:Nat}(hk:k≤m.n):RowOk w ⟨m.l.take k,m.A,k,m.c⟩:=by
 have h1:=h.l
 have h2:=h.b
 exact⟨by show (m.l.take k).length=k;rw[List.length_take];omega,⟨by show k≤m.c;omega,h2.2⟩,h.m.take k⟩
theorem elBlkG:ElemT 22 37 137 232 (.agg (blkA noBlkM)):=⟨underlying22,by kernel_rfl,blkA_size len_no,by decide,by decide,by decide⟩
theorem law_chgrows_few(H:ChainC)(m:RowM)(i:Int)(l:List TxM)(A:Option Addr)(n c:Nat)(nonce:Nat)(w:World)(km:RowOk w m)(hl:l.length=n)(hnc:n≤c)(hcm:c≤maxLen)(hA:TxsIn w A l)(hno:nonce<18446744073709551616)(hi:I64 i)(ht:Tables w)(k1:fewB m.l=false){b:Bool}(k2:fewAll l 6=b):
  Rz 4 #[rowV m, .slice A n c, .int .u64 (nonce:Int), .int .i64 i] w (.bool true):=by
 unfold Rz
 have HT:=hD ht
 have HH:=hD H
 have HKM:=hD km
 have HL:Hid (m.l.length=m.n):=km.l
 have HN63:Hid (m.n<9223372036854775808):=km.n63
 have HAW:Hid (Rt w 10 #[] (.bool true)):=fun u hu=>chawake_any H u (ht.below (EnvX.bel hu))
 have HFW:Hid (Rt w 11 #[.slice m.A m.n m.c] (.bool false)):=fun u hu=>by have h:=fewrow_any m u (km.up (EnvX.bel hu));rw[k1]at h;exact h
 have HTF:Hid (Rt w 12 #[.slice A n c, .int .i64 6] (.bool b)):=fun u hu=>by have h:=fewall_any l 6 A n c u hl (by unfold maxLen at hcm;omega) (hA.up (EnvX.bel hu));rw[k2]at h;exact h
 have E1:Hid (EnvX w w []):=EnvX.start w
 clear ht H km k1 hl hnc hcm hA hno hi k2
 unfold rowV
 go_enter func4,ntmps4
 go_upto_region 1 with (fail)
 refine rgQ [0,1] [] E1 rfl fun hw=>?_
 refine qc rfl func10 (fun u hu=>HAW.out u (nl hu)) hw ?_
 refine qo rfl hw ?_
 refine enP fun u3 EX2=>?_
 go_upto_region 2 with (fail)
 refine rgQ [0,1,2] [] EX2 rfl fun hw=>?_
 refine qo rfl hw ?_
 refine qc rfl func11 (fun u hu=>HFW.out u (nl hu)) hw ?_
 refine qo rfl hw ?_
 refine enP fun u6 EX5=>?_
 go_upto_region 3 with (fail)
 refine rgQ [0,1,2] [] EX5 rfl fun hw=>?_
 refine qo rfl hw ?_
 refine qc rfl func12 (fun u hu=>HTF.out u (nl hu)) hw ?_
 refine qo rfl hw ?_
 refine enP fun u9 EX8=>?_
 go_upto_region 4 with (fail)
 refine rgQ [0,1,2,3,4,5,6,7,8,9] [] EX8 rfl fun hw=>?_
 refine qw 10 hw ?_
 refine enP fun u12 EX11=>?_
 go_upto_region 5 with (fail)
 refine rgQ [0,1] [] EX11 rfl fun hw=>?_
 refine qw 2 hw ?_
 refine enP fun u15 EX14=>?_
 have HBE:=hD (EnvX.bel EX14.out)
 go_wp2
 go_ret
 exact⟨rfl,HBE.out⟩
theorem law_chgrows_txs(H:ChainC)(m:RowM)(i:Int)(l:List TxM)(A:Option Addr)(n c:Nat)(nonce:Nat)(w:World)(km:RowOk w m)(hl:l.length=n)(hnc:n≤c)(hcm:c≤maxLen)(hA:TxsIn w A l)(hno:nonce<18446744073709551616)(hi:I64 i)(ht:Tables w)(k1:fewB m.l=true)(k2:fewAll l 6=false):
  Rz 4 #[rowV m, .slice A n c, .int .u64 (nonce:Int), .int .i64 i] w (.bool true):=by
 unfold Rz
 have HT:=hD ht
 have HH:=hD H
 have HKM:=hD km
 have HL:Hid (m.l.length=m.n):=km.l
 have HN63:Hid (m.n<9223372036854775808):=km.n63
 have HAW:Hid (Rt w 10 #[] (.bool true)):=fun u hu=>chawake_any H u (ht.below (EnvX.bel hu))
 have HFW:Hid (Rt w 11 #[.slice m.A m.n m.c] (.bool true)):=fun u hu=>by have h:=fewrow_any m u (km.up (EnvX.bel hu));rw[k1]at h;exact h
 have HMR:Hid (midRowR m.r):=(fewB_mid k1).1
 have HML:Hid (m.l.length≤50):=(fewB_mid k1).2
 have HTF:Hid (Rt w 12 #[.slice A n c, .int .i64 6] (.bool false)):=fun u hu=>by have h:=fewall_any l 6 A n c u hl (by unfold maxLen at hcm;omega) (hA.up (EnvX.bel hu));rw[k2]at h;exact h
 have E1:Hid (EnvX w w []):=EnvX.start w
 clear ht H km k1 hl hnc hcm hA hno hi k2
 unfold rowV
 go_enter func4,ntmps4
 go_upto_region 1 with (fail)
 refine rgQ [0,1] [] E1 rfl fun hw=>?_
 refine qc rfl func10 (fun u hu=>HAW.out u (nl hu)) hw ?_
 refine qo rfl hw ?_
 refine enP fun u3 EX2=>?_
 go_upto_region 2 with (fail)
 refine rgQ [0,1,2] [] EX2 rfl fun hw=>?_
 refine qo rfl hw ?_
 refine qc rfl func11 (fun u hu=>HFW.out u (nl hu)) hw ?_
 refine qo rfl hw ?_
 refine enP fun u6 EX5=>?_
 go_upto_region 3 with (fail)
 refine rgQ [0,1,2] [] EX5 rfl fun hw=>?_
 refine qo rfl hw ?_
 refine qc rfl func12 (fun u hu=>HTF.out u (nl hu)) hw ?_
 refine qo rfl hw ?_
 refine enP fun u9 EX8=>?_
 go_upto_region 4 with (fail)
 refine rgQ [0,1,2,3,4,5,6,7,8,9] [] EX8 rfl fun hw=>?_
 refine qw 10 hw ?_
 refine enP fun u12 EX11=>?_
 go_upto_region 5 with (fail)
 refine rgQ [0,1] [] EX11 rfl fun hw=>?_
 refine qw 2 hw ?_
 refine enP fun u15 EX14=>?_
 have HBE:=hD (EnvX.bel EX14.out)
 go_wp2
 go_ret
 exact⟨rfl,HBE.out⟩
theorem law_chgrows_main(H:ChainC)(m:RowM)(i:Int)(l:List TxM)(A:Option Addr)(n c:Nat)(nonce:Nat)(w:World)(km:RowOk w m)(hl:l.length=n)(hnc:n≤c)(hcm:c≤maxLen)(hA:TxsIn w A l)(hno:nonce<18446744073709551616)(hi:I64 i)(ht:Tables w)(k1:fewB m.l=true)(k2:fewAll l 6=true):
  Rz 4 #[rowV m, .slice A n c, .int .u64 (nonce:Int), .int .i64 i] w (.bool true):=by
 unfold Rz
 have HT:=hD ht
 have HH:=hD H
 have HKM:=hD km
 have HL:Hid (m.l.length=m.n):=km.l
 have HN63:Hid (m.n<9223372036854775808):=km.n63
 have HAW:Hid (Rt w 10 #[] (.bool true)):=fun u hu=>chawake_any H u (ht.below (EnvX.bel hu))
 have HFW:Hid (Rt w 11 #[.slice m.A m.n m.c] (.bool true)):=fun u hu=>by have h:=fewrow_any m u (km.up (EnvX.bel hu));rw[k1]at h;exact h
 have HMR:Hid (midRowR m.r):=(fewB_mid k1).1
 have HML:Hid (m.l.length≤50):=(fewB_mid k1).2
 have HTF:Hid (Rt w 12 #[.slice A n c, .int .i64 6] (.bool true)):=fun u hu=>by have h:=fewall_any l 6 A n c u hl (by unfold maxLen at hcm;omega) (hA.up (EnvX.bel hu));rw[k2]at h;exact h
 have hmt:=midTxs_R (fewAll_mid k2)
 have HCK:Hid (∀u,EnvX w u []→Calls Tryz.prog 13 #[.slice m.A m.n m.c] u fun e w'=>(∃t:TipM,e= .returned (.tuple #[tipV t, .int .i64 ((checkC m.r).2:Int)])∧IsTip (checkC m.r).1 t w')∧Below u.heap.size u w'):=fun u hu=>H.check m u (km.up (EnvX.bel hu)) (fewB_mid k1).1 (ht.below (EnvX.bel hu))
 have HGR:Hid (∀u,EnvX w u []→Calls Tryz.prog 15 #[.slice m.A m.n m.c, .slice A n c, .int .u64 (nonce:Int)] u fun e w'=>(∃q:RowM,e= .returned (.tuple #[rowV q, .int .i64 ((growC m.r (rsT l) nonce).2:Int)])∧IsRow (growC m.r (rsT l) nonce).1 q w')∧Below u.heap.size u w'):=fun u hu=>H.grow m l A n c nonce u (km.up (EnvX.bel hu)) (fewB_mid k1).1 hl hnc hcm (hA.up (EnvX.bel hu)) (fewAll_mid k2) hno (ht.below (EnvX.bel hu))
 have HGM:Hid (midRowR (growC m.r (rsT l) nonce).1):=grow_midR (fewB_mid k1).1 (by rw[m.r_len];have:=(fewB_mid k1).2;omega) hmt
 have HGB:Hid ((growC m.r (rsT l) nonce).2≠0→(growC m.r (rsT l) nonce).1=m.r∧((checkC m.r).2=0∨(checkC m.r).2=(growC m.r (rsT l) nonce).2)):=grow_bad
 have HGO:Hid ((growC m.r (rsT l) nonce).2=0→(checkC m.r).2=0∧(growC m.r (rsT l) nonce).1.length=m.r.length+1∧(growC m.r (rsT l) nonce).1.take m.n=m.r∧(checkC (growC m.r (rsT l) nonce).1).2=0∧(checkC (growC m.r (rsT l) nonce).1).1.b.h.height=(m.n:Int)):=fun h=>by
  have g:=grow_ok h
  have hlen:m.r.length=m.n:=by rw[m.r_len,km.l]
  refine⟨g.1,by rw[g.2.1,lA];rfl,by rw[g.2.1,←hlen];exact List.take_left' rfl,g.2.2.1,by rw[g.2.2.2,hlen]⟩
 obtain⟨rc,ec,hrc⟩: ∃rc ec,checkC m.r=(rc,ec):=⟨_,_,rfl⟩
 have HCE:=hD hrc
 rw[hrc]at HCK HGB HGO
 simp only at HCK HGB HGO
 obtain⟨gr,eg,hgr⟩: ∃gr eg,growC m.r (rsT l) nonce=(gr,eg):=⟨_,_,rfl⟩
 rw[hgr]at HGR HGM HGB HGO
 simp only at HGR HGM HGB HGO
 have HI64:=hD hi
 have E1:Hid (EnvX w w []):=EnvX.start w
 clear ht H km k1 hl hnc hcm hA hno hi k2 hmt hrc hgr
 unfold rowV
 go_enter func4,ntmps4
 go_upto_region 1 with (fail)
 refine rgQ [0,1] [] E1 rfl fun hw=>?_
 refine qc rfl func10 (fun u hu=>HAW.out u (nl hu)) hw ?_
 refine qo rfl hw ?_
 refine enP fun u3 EX2=>?_
 go_upto_region 2 with (fail)
 refine rgQ [0,1,2] [] EX2 rfl fun hw=>?_
 refine qo rfl hw ?_
 refine qc rfl func11 (fun u hu=>HFW.out u (nl hu)) hw ?_
 refine qo rfl hw ?_
 refine enP fun u6 EX5=>?_
 go_upto_region 3 with (fail)
 refine rgQ [0,1,2] [] EX5 rfl fun hw=>?_
 refine qo rfl hw ?_
 refine qc rfl func12 (fun u hu=>HTF.out u (nl hu)) hw ?_
 refine qo rfl hw ?_
 refine enP fun u9 EX8=>?_
 go_upto_region 4 with (fail)
 refine rgQ [0,1,2,3,4,5,6,7,8,9] [] EX8 rfl fun hw=>?_
 refine qw 10 hw ?_
 refine enP fun u12 EX11=>?_
 go_upto_region 6 with (fail)
 refine rgQ [0] [1,2,3,4,5,6,7] EX11 rfl fun hw=>?_
 refine qo rfl hw ?_
 refine wpG_nil<|(hOp_turn (gd:=none) (R:=fun x M'=> ∃tq N,x= .tuple #[.agg (tipA tq), .int .i64 (ec:Int)]∧M'=N∧KeptB w N (IsTip (rc) tq)∧ ∃vq,IsTip (rc) tq vq) rfl rfl rfl rfl (fun u hu=>OUpon_call (fid:=13) (xs:= #[.tmp 37]) (args:= #[.slice m.A m.n m.c]) rfl func13 rfl rfl u (tip_turn0 (HCK.out u (nl hu)) hu)) ?_)
 rintro _ N6 ⟨t6,_,rfl,rfl,hk6,hv6⟩ he14;intro K' hK';go_big_quiet_op;go_big_quiet_on
 have HT6:=hD hk6
 have HV6:=hD hv6
 have HK6:Hid (lenH t6.b.h):=by obtain⟨v,hv⟩:=HV6.out;exact hv.2.b.h.len
 clear hk6 hv6
 refine phE [2,3,4] [5,6,7] he14 fun hw=>?_
 refine qw 3 hw ?_
 refine wpG_nil<|qn rfl (new_tip _) fun g6 HGg6 he16=>?_
 change lexH _ _ _ _ _ _ ((g6,oc (tipA noTipM) 41)::N6)
 refine(sh rfl HGg6 (infoTip _ (tipA_size HK6.out)) (tip_sizes HK6.out) (tipA_one _) ?_)
 intro he17
 refine phE [7] [] he17 fun hw=>?_
 refine qo rfl hw ?_
 refine enP fun u20 EX19=>?_
 go_upto_region 7 with (fail)
 refine rgQ [0,1,2] [3,4,5,6,7,8] EX19 rfl fun hw=>?_
 refine qw 3 hw ?_
 refine wpG_nil<|(hOp_turn (gd:=none) (R:=fun xv M'=> ∃tq Nq,xv= .tuple #[.slice tq.A tq.n tq.c, .int .i64 (eg:Int)]∧M'=Nq++((g6,oc (tipA t6) 41)::N6)∧KeptB w Nq (IsRow (gr) tq)∧ ∃vq,IsRow (gr) tq vq) rfl rfl rfl rfl (fun u hu=>OUpon_call (fid:=15) (xs:= #[.tmp 42, .tmp 43, .tmp 44]) (args:= #[.slice m.A m.n m.c, .slice A n c, .int .u64 (nonce:Int)]) rfl func15 rfl rfl u (row_turn (HGR.out u (nl hu)) hu)) ?_)
 rintro _ _ ⟨m2,N7,rfl,rfl,hk7,hv7⟩ he22;intro K' hK';go_big_quiet_op;go_big_quiet_on
 have HT7:=hD hk7
 have HV7:=hD hv7
 clear hk7 hv7
 refine phE [4,5,6,7,8] [] he22 fun hw=>?_
 refine qw 5 hw ?_
 refine enP fun u25 EX24=>?_
 have HR7:Hid (m2.r=gr):=by obtain⟨v,hv⟩:=HV7.out;exact hv.1
 have HL7:Hid (m2.l.length=m2.n):=by obtain⟨v,hv⟩:=HV7.out;exact hv.2.l
 have HM7:Hid (m2.n≤m2.c∧m2.n<9223372036854775808):=by obtain⟨v,hv⟩:=HV7.out;exact⟨hv.2.b.1,hv.2.n63⟩
 cases eg with
 | succ e=>
  have D8:Hid (decide (((e+1:Nat):Int)≠0)=true):=decide_eq_true (by omega)
  replace HGB:=hD (HGB.out (Nat.succ_ne_zero _))
  clear HGO
  go_upto_region 8 with (fail)
  refine rgQ [0,1] [] EX24 rfl fun hw=>?_
  refine qo rfl hw ?_
  refine qv rfl (fun u hu=>neErr_op u D8.out rfl rfl) hw ?_
  refine enP fun u28 EX27=>?_
  cases ec with
  |zero=>
   have D5:Hid (decide (((0:Nat):Int)=0)=true):=decide_eq_true (by omega)
   go_upto_region 9 with (fail)
   refine rgQ [0,1,2,3,4,5,6,7,8,9,10,11,12] [] EX27 rfl fun hw=>?_
   refine qw 2 hw ?_
   refine qc (args:= #[.slice m2.A m2.n m2.c, .slice m.A m.n m.c]) (v:= .bool true) rfl func24 (fun u hu=>by have h:=HH.out.same m2 m u (HT7.out u _ hu (fun y MEM=>(mL MEM))).2 (by rw[HR7.out];exact HGM.out) (HKM.out.up (EnvX.bel hu)) HMR.out (HT.out.below (EnvX.bel hu));rw[HR7.out,HGB.out.1,decide_eq_true rfl]at h;exact h) hw ?_
   refine qw 2 hw ?_
   refine qv rfl (fun u hu=>eqErr_op u D5.out rfl rfl) hw ?_
   refine qw 7 hw ?_
   refine enP fun u31 EX30=>?_
   have HBE:=hD (EnvX.bel EX30.out)
   go_wp2
   go_ret
   exact⟨rfl,HBE.out⟩
  |succ ec=>
   have D5:Hid (decide (((ec+1:Nat):Int)=0)=false):=decide_eq_false (by omega)
   have D9:Hid (decide (((ec+1:Nat):Int)=((e+1:Nat):Int))=true):=decide_eq_true (by have h:=HGB.out.2;omega)
   go_upto_region 9 with (fail)
   refine rgQ [0,1,2,3,4,5,6,7,8,9,10,11,12] [] EX27 rfl fun hw=>?_
   refine qw 2 hw ?_
   refine qc (args:= #[.slice m2.A m2.n m2.c, .slice m.A m.n m.c]) (v:= .bool true) rfl func24 (fun u hu=>by have h:=HH.out.same m2 m u (HT7.out u _ hu (fun y MEM=>(mL MEM))).2 (by rw[HR7.out];exact HGM.out) (HKM.out.up (EnvX.bel hu)) HMR.out (HT.out.below (EnvX.bel hu));rw[HR7.out,HGB.out.1,decide_eq_true rfl]at h;exact h) hw ?_
   refine qw 2 hw ?_
   refine qv rfl (fun u hu=>eqErr_op u D5.out rfl rfl) hw ?_
   refine qw 3 hw ?_
   refine qv rfl (fun u hu=>eqErr_op u D9.out rfl rfl) hw ?_
   refine qw 3 hw ?_
   refine enP fun u31 EX30=>?_
   have HBE:=hD (EnvX.bel EX30.out)
   go_wp2
   go_ret
   exact⟨rfl,HBE.out⟩
 | zero=>
  have D8:Hid (decide (((0:Nat):Int)≠0)=false):=decide_eq_false (by omega)
  replace HGO:=hD (HGO.out rfl)
  clear HGB
  obtain rfl:ec=0:=HGO.out.1
  go_upto_region 8 with (fail)
  refine rgQ [0,1] [] EX24 rfl fun hw=>?_
  refine qo rfl hw ?_
  refine qv rfl (fun u hu=>neErr_op u D8.out rfl rfl) hw ?_
  refine enP fun u28 EX27=>?_
  have HN7:Hid (m2.n=m.n+1):=by show _=_;rw[←HL7.out,←m2.r_len,HR7.out,HGO.out.2.1,m.r_len,HL.out]
  obtain⟨rx,ex,hrx⟩: ∃rx ex,checkC gr=(rx,ex):=⟨_,_,rfl⟩
  have HGX:=hD HGO.out.2.2
  rw[hrx]at HGX
  simp only at HGX
  obtain rfl:ex=0:=HGX.out.2.1
  have HRX:=hD hrx
  clear hrx
  go_upto_region 10 with (fail)
  refine rgQ [0] [1,2,3,4,5,6,7] EX27 rfl fun hw=>?_
  refine qo rfl hw ?_
  refine wpG_nil<|(hOp_turn (gd:=none) (R:=fun x M'=> ∃tq N,x= .tuple #[.agg (tipA tq), .int .i64 ((0:Nat):Int)]∧M'=N++(N7++((g6,oc (tipA t6) 41)::N6))∧KeptB w N (IsTip (rx) tq)∧ ∃vq,IsTip (rx) tq vq) rfl rfl rfl rfl (fun u hu=>OUpon_call (fid:=13) (xs:= #[.tmp 63]) (args:= #[.slice m2.A m2.n m2.c]) rfl func13 rfl rfl u (tip_turn (by have h:=HH.out.check m2 u (HT7.out u _ hu (fun y MEM=>(mL MEM))).2 (by rw[HR7.out];exact HGM.out) (HT.out.below (EnvX.bel hu));rw[HR7.out,HRX.out]at h;exact h) hu)) ?_)
  rintro _ _ ⟨t8,N8,rfl,rfl,hk8,hv8⟩ he30;intro K' hK';go_big_quiet_op;go_big_quiet_on
  have HT8:=hD hk8
  have HV8:=hD hv8
  have HK8:Hid (lenH t8.b.h):=by obtain⟨v,hv⟩:=HV8.out;exact hv.2.b.h.len
  clear hk8 hv8
  refine phE [2,3,4] [5,6,7] he30 fun hw=>?_
  refine qw 3 hw ?_
  refine wpG_nil<|qn rfl (new_tip _) fun g8 HGg8 he32=>?_
  change lexH _ _ _ _ _ _ ((g8,oc (tipA noTipM) 41)::(N8++(N7++((g6,oc (tipA t6) 41)::N6))))
  refine(sh rfl HGg8 (infoTip _ (tipA_size HK8.out)) (tip_sizes HK8.out) (tipA_one _) ?_)
  intro he33
  refine phE [7] [] he33 fun hw=>?_
  refine qo rfl hw ?_
  refine enP fun u36 EX35=>?_
  have HGT:Hid (t8.b.h.height=(m.n:Int)):=by
   obtain⟨v,hv⟩:=HV8.out
   have h:=HGX.out.2.2
   rw[←hv.1]at h
   exact h
  have HAD1:Hid (IntKind.i64.wrap ((m.n:Int)+1)=((m.n+1:Nat):Int)):=by have:=HML.out;have:=HL.out;show _=_;rw[IntKind.wrap_i64];omega
  have D12:Hid (decide ((m2.n:Int)≠((m.n+1:Nat):Int))=false):=decide_eq_false (by have:=HN7.out;omega)
  have HNC:Hid (m.n≤m2.c):=by have:=HN7.out;have:=HM7.out.1;show _≤_;omega
  have D30:Hid (decide ((m.n:Int)≠(m.n:Int))=false):=decide_eq_false (by omega)
  have HTK:Hid (RowM.r ⟨m2.l.take m.n,m2.A,m.n,m2.c⟩=m.r):=by
   show rsB (m2.l.take m.n)=_
   rw[←rsB_take]
   show (m2.r).take m.n=_
   rw[HR7.out]
   exact HGX.out.1
  have D1:Hid (decide (((0:Nat):Int)≠0)=false):=decide_eq_false (by omega)
  go_upto_region 11 with (fail)
  refine rgQ [0,1,2,3,4,5,6,7,8,9,10,11,12,13,14,15,16,17,18,19,20,21,22,23,24,25,26,27,28,29,30,31] [] EX35 rfl fun hw=>?_
  refine qo rfl hw ?_
  refine qv rfl (fun u hu=>neErr_op u D1.out rfl rfl) hw ?_
  refine qw 2 hw ?_
  refine qv rfl (fun u hu=>neErr_op u D1.out rfl rfl) hw ?_
  refine qw 3 hw ?_
  refine qv rfl (fun u hu=>len_op underlying22 HM7.out.2 u rfl) hw ?_
  refine qo rfl hw ?_
  refine qv rfl (fun u hu=>len_op underlying22 HN63.out u rfl) hw ?_
  refine qv rfl (fun u hu=>addZ_op u HAD1.out rfl rfl) hw ?_
  refine qv rfl (fun u hu=>neZ_op u D12.out rfl rfl) hw ?_
  refine qw 4 hw ?_
  refine qv rfl (fun u hu=>len_op underlying22 HN63.out u rfl) hw ?_
  refine qv (v:= .slice m2.A m.n m2.c) rfl (fun u hu=>cutXh_op elBlkG (j:=m.n) u HNC.out rfl rfl) hw ?_
  refine qo rfl hw ?_
  refine qc (args:= #[.slice m2.A m.n m2.c, .slice m.A m.n m.c]) (v:= .bool true) rfl func24 (fun u hu=>by have h:=HH.out.same ⟨m2.l.take m.n,m2.A,m.n,m2.c⟩ m u ((HT7.out u _ hu (fun y MEM=>(mT (mR (mL MEM))))).2.first (by have:=HN7.out;omega)) (by rw[HTK.out];exact HMR.out) (HKM.out.up (EnvX.bel hu)) HMR.out (HT.out.below (EnvX.bel hu));rw[HTK.out,decide_eq_true rfl]at h;exact h) hw ?_
  refine qw 6 hw ?_
  refine qv (v:= .int .i64 (m.n:Int)) rfl (fun u hu=>load_any_op u (by have h:=(loads_hd HK8.out (box_tip_hd hu mH HK8.out)).2.1;rwa[HGT.out]at h) rfl) hw ?_
  refine qo rfl hw ?_
  refine qv rfl (fun u hu=>len_op underlying22 HN63.out u rfl) hw ?_
  refine qv rfl (fun u hu=>neZ_op u D30.out rfl rfl) hw ?_
  refine qo rfl hw ?_
  refine enP fun u39 EX38=>?_
  by_cases clow:i<1
  case pos=>
   have DA:Hid (decide (i<1)=true):=decide_eq_true clow
   clear clow
   go_upto_region 13 with (fail)
   refine rgQ [0,1,2,3,4,5,6,7] [] EX38 rfl fun hw=>?_
   refine qo rfl hw ?_
   refine qv rfl (fun u hu=>ltZ_op u DA.out rfl rfl) hw ?_
   refine qw 6 hw ?_
   refine enP fun u42 EX41=>?_
   go_upto_region 14 with (fail)
   refine rgQ [0] [] EX41 rfl fun hw=>?_
   refine qo rfl hw ?_
   refine enP fun u45 EX44=>?_
   have HBE:=hD (EnvX.bel EX44.out)
   go_wp2
   go_ret
   exact⟨rfl,HBE.out⟩
  have DA:Hid (decide (i<1)=false):=decide_eq_false clow
  by_cases cbig:(m.n:Int)<i
  case pos=>
   have DB:Hid (decide ((m.n:Int)<i)=true):=decide_eq_true cbig
   clear cbig
   go_upto_region 13 with (fail)
   refine rgQ [0,1,2,3,4,5,6,7] [] EX38 rfl fun hw=>?_
   refine qo rfl hw ?_
   refine qv rfl (fun u hu=>ltZ_op u DA.out rfl rfl) hw ?_
   refine qw 3 hw ?_
   refine qv rfl (fun u hu=>len_op underlying22 HN63.out u rfl) hw ?_
   refine qv rfl (fun u hu=>gtZ_op u DB.out rfl rfl) hw ?_
   refine qo rfl hw ?_
   refine enP fun u42 EX41=>?_
   go_upto_region 14 with (fail)
   refine rgQ [0] [] EX41 rfl fun hw=>?_
   refine qo rfl hw ?_
   refine enP fun u45 EX44=>?_
   have HBE:=hD (EnvX.bel EX44.out)
   go_wp2
   go_ret
   exact⟨rfl,HBE.out⟩
  have DB:Hid (decide ((m.n:Int)<i)=false):=decide_eq_false cbig
  obtain⟨k,rfl⟩:=Int.eq_ofNat_of_zero_le (show 0≤i by omega)
  have hk1:1≤k:=by omega
  have hk2:k≤m.n:=by omega
  have HK2:Hid (k≤m.n):=hk2
  have HKC:Hid (k≤m.c):=by have:=HKM.out.b.1;show _≤_;omega
  have HTK2:Hid (RowM.r ⟨m.l.take k,m.A,k,m.c⟩=m.r.take k):=(rsB_take m.l k).symm
  have hpre:(checkC (m.r.take k)).2=0:=check_pre (by rw[HCE.out]) hk1 (by rw[m.r_len,HL.out];exact hk2)
  obtain⟨rp,ep,hrp⟩: ∃rp ep,checkC (m.r.take k)=(rp,ep):=⟨_,_,rfl⟩
  rw[hrp]at hpre
  obtain rfl:ep=0:=hpre
  have HRP:=hD hrp
  clear clow cbig hk1 hk2 hrp
  go_upto_region 13 with (fail)
  refine rgQ [0,1,2,3,4,5,6,7] [] EX38 rfl fun hw=>?_
  refine qo rfl hw ?_
  refine qv rfl (fun u hu=>ltZ_op u DA.out rfl rfl) hw ?_
  refine qw 3 hw ?_
  refine qv rfl (fun u hu=>len_op underlying22 HN63.out u rfl) hw ?_
  refine qv rfl (fun u hu=>gtZ_op u DB.out rfl rfl) hw ?_
  refine qo rfl hw ?_
  refine enP fun u42 EX41=>?_
  go_upto_region 15 with (fail)
  refine rgQ [0,1,2] [3,4,5,6,7,8,9] EX41 rfl fun hw=>?_
  refine qw 2 hw ?_
  refine qv (v:= .slice m.A k m.c) rfl (fun u hu=>cutXh_op elBlkG (j:=k) u HKC.out rfl rfl) hw ?_
  refine wpG_nil<|(hOp_turn (gd:=none) (R:=fun x M'=> ∃tq N,x= .tuple #[.agg (tipA tq), .int .i64 ((0:Nat):Int)]∧M'=N++((g8,oc (tipA t8) 41)::(N8++(N7++((g6,oc (tipA t6) 41)::N6))))∧KeptB w N (IsTip (rp) tq)∧ ∃vq,IsTip (rp) tq vq) rfl rfl rfl rfl (fun u hu=>OUpon_call (fid:=13) (xs:= #[.tmp 110]) (args:= #[.slice m.A k m.c]) rfl func13 rfl rfl u (tip_turn (by have h:=HH.out.check ⟨m.l.take k,m.A,k,m.c⟩ u ((HKM.out.first HK2.out).up (EnvX.bel hu)) (by rw[HTK2.out];exact HMR.out.take k) (HT.out.below (EnvX.bel hu));rw[HTK2.out,HRP.out]at h;exact h) hu)) ?_)
  rintro _ _ ⟨t9,N9,rfl,rfl,hk9,hv9⟩ he44;intro K' hK';go_big_quiet_op;go_big_quiet_on
  have HT9:=hD hk9
  have HV9:=hD hv9
  have HK9:Hid (lenH t9.b.h):=by obtain⟨v,hv⟩:=HV9.out;exact hv.2.b.h.len
  clear hk9 hv9
  refine phE [4,5,6] [7,8,9] he44 fun hw=>?_
  refine qw 3 hw ?_
  refine wpG_nil<|qn rfl (new_tip _) fun g9 HGg9 he46=>?_
  change lexH _ _ _ _ _ _ ((g9,oc (tipA noTipM) 41)::(N9++((g8,oc (tipA t8) 41)::(N8++(N7++((g6,oc (tipA t6) 41)::N6))))))
  refine(sh rfl HGg9 (infoTip _ (tipA_size HK9.out)) (tip_sizes HK9.out) (tipA_one _) ?_)
  intro he47
  refine phE [9] [] he47 fun hw=>?_
  refine qo rfl hw ?_
  refine enP fun u50 EX49=>?_
  have D16:Hid (decide (((0:Nat):Int)=0)=true):=decide_eq_true rfl
  go_upto_region 16 with (fail)
  refine rgQ [0,1,2] [] EX49 rfl fun hw=>?_
  refine qo rfl hw ?_
  refine qv rfl (fun u hu=>eqErr_op u D16.out rfl rfl) hw ?_
  refine qo rfl hw ?_
  refine enP fun u53 EX52=>?_
  have HBE:=hD (EnvX.bel EX52.out)
  go_wp2
  go_ret
  exact⟨rfl,HBE.out⟩
theorem law_chgrows(H:ChainC)(m:RowM)(i:Int)(l:List TxM)(A:Option Addr)(n c:Nat)(nonce:Nat)(w:World)(km:RowOk w m)(hl:l.length=n)(hnc:n≤c)(hcm:c≤maxLen)(hA:TxsIn w A l)(hno:nonce<18446744073709551616)(hi:I64 i)(ht:Tables w):
  Rz 4 #[rowV m, .slice A n c, .int .u64 (nonce:Int), .int .i64 i] w (.bool true):=by
 unfold Rz
 cases k1:fewB m.l with
 |false=>exact law_chgrows_few H m i l A n c nonce w km hl hnc hcm hA hno hi ht k1 rfl
 |true=>
  cases k2:fewAll l 6 with
  |false=>exact law_chgrows_txs H m i l A n c nonce w km hl hnc hcm hA hno hi ht k1 k2
  |true=>exact law_chgrows_main H m i l A n c nonce w km hl hnc hcm hA hno hi ht k1 k2
end Go.Proofs.YtojmeodoenkapaaGreatDoor
namespace Go.Proofs.YtojmeodoenkapaaGreatDoor.chainGrows
set_option maxRecDepth 8000
open Go.ChangeShapes Go.WideShapes Go.ChangeAt Go.RowKit
theorem contract(H:Type)(enc:TypeId × Value→H)(W:World)(base:Nat)(args:Array Value)(ds gs:List (DataW H))(before:List MemPlace)
  (hval: ∀(j:Nat) t v,Tryz.f4.params[j]?=some t→args[j]?=some v→Value.okWide Tryz.prog W .any base t v)
  (hW:DataW.Whole enc Tryz.prog Tryz.f4.params.toList Rows.chainGrowsSpec.vars false W args.toList ds gs before) (hL:laidMetH Tryz.prog Rows.chainGrowsRow.laid W):
  Calls Tryz.prog 4 args W fun e W'=> ∃v,e= .returned v∧Rows.chainGrowsSpec.post enc Tryz.prog Tryz.f4 false true false false W args v W':=by
 have hW':=hW
 obtain⟨p,q,hA0,hV,rfl,hfz,hnd⟩:=hW
 have hA:DataW.TrodAll enc Tryz.prog W 0 (fun _=>true) true Tryz.f4.params.toList args.toList ds p:=hA0
 rw[Tryz.params4]at hA hval
 obtain⟨v0,vs0,d0,ds0,p0,q0,hargs,rfl,rfl,h0,r0⟩:=trodAll_cons hA
 obtain⟨v1,vs1,d1,ds1,p1,q1,rfl,rfl,rfl,h1,r1⟩:=trodAll_cons r0
 obtain⟨v2,vs2,d2,ds2,p2,q2,rfl,rfl,rfl,h2,r2⟩:=trodAll_cons r1
 obtain⟨v3,vs3,d3,ds3,p3,q3,rfl,rfl,rfl,h3,r3⟩:=trodAll_cons r2
 obtain⟨rfl,rfl,rfl⟩:=trodAll_nil r3
 obtain rfl:args= #[v0,v1,v2,v3]:=by cases args;simp_all
 obtain⟨rfl,rfl⟩:=trodVars_none hV
 have lt0: ∀x∈p0,x.block<W.heap.size:=by obtain⟨m,hm⟩:=h0;exact DataW.trod_lt m _ _ _ hm
 obtain⟨x0,rfl,kx0⟩:=open_blks (hval 0 22 v0 rfl rfl) h0
 have lt1: ∀x∈p1,x.block<W.heap.size:=by obtain⟨m,hm⟩:=h1;exact DataW.trod_lt m _ _ _ hm
 obtain⟨a1,n1,c1,x1,rfl,lx1,nc1,cm1,px1⟩:=open_txs (hval 1 23 v1 rfl rfl) h1
 obtain⟨x2,rfl,rfl,rfl,wx2⟩:=open_int underlying24 (hval 2 24 v2 rfl rfl) h2
 obtain⟨y2,rfl⟩: ∃n:Nat,x2=(n:Int):=Int.eq_ofNat_of_zero_le (bounds_u64 wx2).1
 have b2:y2<18446744073709551616:=by have:=(bounds_u64 wx2).2;omega
 obtain⟨x3,rfl,rfl,rfl,wx3⟩:=open_int underlying3 (hval 3 3 v3 rfl rfl) h3
 clear hA0
 refine(law_chgrows chainC x0 x3 x1 a1 n1 c1 y2 W kx0 lx1 nc1 cm1 px1 b2 (bounds_i64 wx3) (tables_of_laid hL)).mono fun e W'⟨he,bel⟩=>?_
 subst he
 exact⟨_,rfl,_,_,_,[],_,[],hW',trodAll_mk1 (shut_bool underlying4 _),(trodAll_cons_mk (Below.trod laidOut (by kernel_rfl) (of_decide_eq_true (by kernel_rfl)) h0 bel lt0) (trodAll_cons_mk (Below.trod laidOut (by kernel_rfl) (of_decide_eq_true (by kernel_rfl)) h1 bel lt1) (trodAll_cons_mk (shut_int underlying24 wx2) (trodAll_cons_mk (shut_int underlying3 wx3) trodAll_mk0)))),rfl,bel.frame _,fun h=>by cases h⟩
def start:Array Value:= #[.slice none 0 0, .slice none 0 0, .int .u64 0, .int .i64 0]
theorem reads(os:Os){H:Type}(enc:TypeId × Value→H): ∃places,DataW.whole enc Tryz.prog ((laidWorld os).forCall (fun _ _=>0) ⟨#[],start,[]⟩).memory Tryz.f4.params.toList Rows.chainGrowsSpec.vars false start.toList 8=some ([.nil, .nil, .lit (.int .u64 0), .lit (.int .i64 0)],[],places):=
 ⟨[],by kernel_rfl⟩
theorem lifted(os:Os)(started:os.Started)(H:Type)(enc:TypeId × Value→H)(F:Stop.Interp):
  ReturnsInHanded {} Tryz.checked os 4 .any ((OpenSpec.ofChange Rows.chainGrowsSpec).preRow enc Tryz.prog Tryz.f4 Rows.chainGrowsRow.domain false Rows.chainGrowsRow.laid) (((OpenSpec.ofChange Rows.chainGrowsSpec).at F).post enc Tryz.prog Tryz.f4 false true false false):=by
 obtain⟨places,hx⟩:=reads os enc
 refine returnsInHanded_of_row (C:=Tryz.checked) (s:=OpenSpec.ofChange Rows.chainGrowsSpec) own started (by kernel_rfl) func4
  (witness_row_at (enc:=enc) (C:=Tryz.checked) false (laidWorld os) start rfl (by kernel_rfl) (by kernel_rfl) (by kernel_rfl)
   (OpenSpec.preRow_of_cond 8 hx (by kernel_rfl) (fun k hk=>by cases hk) (by kernel_rfl) (laidMet_of_run' 8 (by kernel_rfl) (by kernel_rfl)))) ?_
 intro W base args ds gs before hval hW _ _ _ hL _ _
 exact contract H enc W base args ds gs before hval hW hL
theorem said:Rows.ChainGrowsSaid:=
 OpenClaim.holds_of_cond 4 Tryz.f4 rfl rfl rfl rfl rfl rfl rfl ⟨rfl,rfl,rfl,rfl,rfl⟩ rfl rfl rfl rfl rfl (by kernel_rfl) func4 (by kernel_rfl)
  (of_decide_eq_true (by kernel_rfl)) (by unfold Func.isWrapper;first|(rw[if_pos (by decide+kernel)];kernel_rfl)|(rw[if_neg (by decide+kernel)];exact⟨rfl,rfl⟩))
  (fun os started H enc _ F=>by rw[OpenClaim.pre_eq_preRow];exact lifted os started H enc F)
theorem plain(f:FuncId)(fn:Func)(hf:Tryz.pinned.checked.prog.funcNamed "stepladder/stepladderlaw12.ChainGrows" =some f)(hfn:Tryz.pinned.checked.prog.funcs[f]?=some fn):
   false=Tryz.pinned.checked.prog.looks []∧ ∀(j:Nat) t,fn.params[j]?=some t→Tryz.pinned.checked.prog.wantsStandIn t=false:=by
 obtain rfl:f=4:=Option.some.inj ((show Tryz.prog.funcNamed "stepladder/stepladderlaw12.ChainGrows" =some 4 by kernel_rfl).symm.trans hf)|>.symm
 obtain rfl:fn=Tryz.f4:=(Option.some.inj (func4.symm.trans hfn)).symm
 refine⟨by kernel_rfl,fun j t ht=>?_⟩
 rw[Tryz.params4]at ht
 have hm:t=22∨t=23∨t=24∨t=3:=by simpa using Array.mem_of_getElem? ht
 rcases hm with rfl|rfl|rfl|rfl
 · exact(show Tryz.prog.wantsStandIn 22=false by kernel_rfl)
 · exact(show Tryz.prog.wantsStandIn 23=false by kernel_rfl)
 · exact(show Tryz.prog.wantsStandIn 24=false by kernel_rfl)
 · exact(show Tryz.prog.wantsStandIn 3=false by kernel_rfl)
theorem card:Rows.ChainGrowsCardSaid:=
 Claim7.holds_tied_plain_at .later [] _ _ _ _ said (fun _ h=>by cases h) (by kernel_rfl) (fun _ h=>by cases h) chainGrows_row_tie rfl ⟨rfl,rfl⟩ (by kernel_rfl) rfl plain (by kernel_rfl)
end Go.Proofs.YtojmeodoenkapaaGreatDoor.chainGrows
