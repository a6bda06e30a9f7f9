/-
  PROVED: the law stepladderlaw12.ChainFinds answers true for every input, and leaves its arguments as they were.
  Conditions: the two package-level tables of package sha hold at the call what their initialisers lay; the card ties that to the text of the program (a pruned copy of the project: the packages that the roots of this seat load).
-/
import Derived.Test.YtojmeodoenkapaaGreatDoorZk
import Derived.Test.YtojmeodoenkapaaGreatDoorCards
import Derived.Test.YtojmeodoenkapaaGreatDoorTie
import Derived.WalkKit
import Derived.ProofKit
import Derived.OpenShut
import Derived.ChangeOld
import Derived.Below
import Derived.Deep.DeepHandedRow
import Derived.Lib.LaidTab
open Go.Proofs.Tryz
namespace Go.Proofs.YtojmeodoenkapaaGreatDoor
set_option maxRecDepth 20000
set_option maxHeartbeats 8000000
set_option linter.unusedVariables false
set_option linter.unusedSimpArgs false
open Go.ChangeShapes Go.WideShapes Go.ChangeAt Go.RowKit
theorem cells26:Tryz.prog.cellsOf 26=32:=by kernel_rfl
theorem open_id{H:Type}{enc:TypeId × Value→H}{W:World}{base:Nat}{v:Value}{d:DataW H}{p:List MemPlace}(hok:Value.okWide Tryz.prog W .any base 26 v)
   (h:DataW.Trod enc Tryz.prog W 0 (fun _=>true) true 26 v d p): ∃xs:List Int,v= .agg (arrB 32 xs)∧xs.length=32∧ ∀x∈xs,0≤x∧x≤255:=by
 obtain⟨cs,rfl,hsz,_⟩: ∃cs,v= .agg cs∧cs.size=Tryz.prog.cellsOf 26∧Row.okWide Tryz.prog W .any base 26 cs:=by
   simpa [Value.okWide,underlying26] using hok
 rw[cells26]at hsz
 obtain⟨fuel,hf⟩:=h
 obtain⟨ys,m,_,_,_,hl,hall⟩:=DataW.trod_array underlying26 hf
 have hc: ∀i,i<32→ ∃n:Int,cs[i]?=some (.int .u8 n)∧0≤n∧n≤255:=by
   intro i hi
   have h1:=hall i hi
   rw[List.getElem?_eq_getElem (by omega:i<ys.length)]at h1
   obtain⟨n,e,_,wf⟩:=DataW.trod_int underlying5 h1
   refine⟨n,?_,?_⟩
   · rw[cellsB,Nat.mul_one]at e
     have hi':i<cs.toList.length:=by simp[hsz,hi]
     simp only[Value.cells,List.drop_eq_getElem_cons hi',List.take_succ_cons,List.take_zero,List.cons.injEq,and_true]at e
     rw[Array.getElem?_eq_getElem (by omega)]
     simpa using e
   · have:=bounds_u8 wf
     omega
 refine⟨cs.toList.map intOf,?_,by simp[hsz],?_⟩
 · congr 1
   apply arrB_ext
   · simp[hsz]
   · exact hsz
   · intro i hi
     obtain⟨n,e,_⟩:=hc i hi
     have e':cs.toList[i]?=some (.int .u8 n):=by simpa using e
     simp[e,List.getD,List.getElem?_map,e',intOf]
 · intro x hx
   obtain⟨u,hu,rfl⟩:=List.mem_map.1 hx
   obtain⟨i,hi,rfl⟩:=List.getElem_of_mem hu
   obtain⟨n,e,hn⟩:=hc i (by simp at hi;omega)
   have e':cs.toList[i]?=some (.int .u8 n):=by simpa using e
   rw[List.getElem?_eq_getElem hi]at e'
   rw[Option.some.inj e']
   exact hn
def zeroId:Value:= .agg (arrB 32 [])
def zeroD{H:Type}:DataW H:= .agg (List.replicate 32 (.lit (.int .u8 0)))
section
variable {l:List BlkR}
theorem find_low: ∀(l:List BlkR)(id:List Int),-1≤findB l id∧findB l id<(l.length:Int)
 |[],_=>⟨Int.le_refl _,by show (-1:Int)<0;decide⟩
 |b::r,id=>by
  have e:=find_low r id
  rw[List.length_cons]
  unfold findB
  split
  · omega
  · split<;>omega
theorem find_hit: ∀(l:List BlkR)(id:List Int),0≤findB l id→idH (atB l (findB l id).toNat).h=id
 |[],_,h=>absurd (show (0:Int)≤ -1 from h) (by decide)
 |b::r,id,h=>by
  unfold findB at h ⊢
  split
  · rename_i c
    exact c
  · rename_i c
    rw[if_neg c]at h
    split
    · rename_i d
      rw[if_pos d]at h
      exact absurd h (by decide)
    · rename_i d
      have e:=find_hit r id (by omega)
      rw[show (findB r id+1).toNat=(findB r id).toNat+1 by omega]
      exact e
theorem find_le: ∀(l:List BlkR)(i:Nat),i<l.length→0≤findB l (idH (atB l i).h)∧findB l (idH (atB l i).h)≤(i:Int)
 |[],_,h=>absurd h (Nat.not_lt_zero _)
 |b::r,0,_=>by
  show 0≤findB (b::r) (idH b.h)∧findB (b::r) (idH b.h)≤((0:Nat):Int)
  unfold findB
  rw[if_pos rfl]
  exact⟨by decide,by decide⟩
 |b::r,i+1,h=>by
  have e:=find_le r i (by rw[List.length_cons]at h;omega)
  rw[show atB (b::r) (i+1)=atB r i from rfl]
  unfold findB
  split
  · omega
  · rw[if_neg (by omega)]
    omega
end
open Go.RowKit
theorem levels_at{m:RowM}{k:Nat}(hk:k<m.l.length):((levelsB m.r).map i64V)[k]?=some (.int .i64 (levelH (m.l.getD k noBlkM).h)):=by
 have hr:k<m.r.length:=by rw[m.r_len];exact hk
 unfold levelsB
 rw[List.getElem?_map,List.getElem?_map,gE hr,RowM.at_h hk]
 unfold atB
 rw[gD,gE hr]
 rfl
theorem take_at{cur:Array Value}{n k:Nat}{xs:List Value}(h:cur.toList.take (n*1)=xs)(hk:k<n){v:Value}(hv:xs[k]?=some v):cur[k*1]?=some v:=by
 rw[←h,List.getElem?_take_of_lt (by omega),Array.getElem?_toList]at hv
 rw[Nat.mul_one]
 exact hv
theorem law_chfinds_few(H:ChainC)(m:RowM)(i:Int)(id:List Int)(w:World)(km:RowOk w m)(hi:I64 i)(hid:isId id)(ht:Tables w)(k1:fewB m.l=false):
  Rz 9 #[rowV m, .int .i64 i,idv id] w (.bool true):=by
 unfold Rz
 have HT:=hD ht
 have HH:=hD H
 have HKM:=hD km
 have HL:Hid (m.l.length=m.n):=km.l
 have HN63:Hid (m.n<9223372036854775808):=km.n63
 have HAW:Hid (Rt w 10 #[] (.bool true)):=fun u hu=>chawake_any H u (ht.below (EnvX.bel hu))
 have HFW:Hid (Rt w 11 #[.slice m.A m.n m.c] (.bool false)):=fun u hu=>by have h:=fewrow_any m u (km.up (EnvX.bel hu));rw[k1]at h;exact h
 have E1:Hid (EnvX w (w.alloc (.cells (arrB 32 id) 26)) [(w.heap.size,oc (arrB 32 id) 26)]):=(EnvX.start w).new _
 clear ht H km k1 hi hid
 unfold rowV idv
 go_enter func9,ntmps9
 go_upto_region 1 with (fail)
 generalize w.alloc (.cells (arrB 32 id) 26)=W at *
 refine rgQ [0,1] [] E1 rfl fun hw=>?_
 refine qc rfl func10 (fun u hu=>HAW.out u (nl hu)) hw ?_
 refine qo rfl hw ?_
 refine enP fun u3 EX2=>?_
 go_upto_region 2 with (fail)
 refine rgQ [0,1,2] [] EX2 rfl fun hw=>?_
 refine qo rfl hw ?_
 refine qc rfl func11 (fun u hu=>HFW.out u (nl hu)) hw ?_
 refine qo rfl hw ?_
 refine enP fun u6 EX5=>?_
 go_upto_region 3 with (fail)
 refine rgQ [0,1,2,3,4,5] [] EX5 rfl fun hw=>?_
 refine qw 6 hw ?_
 refine enP fun u9 EX8=>?_
 go_upto_region 4 with (fail)
 refine rgQ [0,1] [] EX8 rfl fun hw=>?_
 refine qw 2 hw ?_
 refine enP fun u12 EX11=>?_
 have HBE:=hD (EnvX.bel EX11.out)
 go_wp2
 go_ret
 exact⟨rfl,HBE.out⟩
theorem law_chfinds_main(H:ChainC)(m:RowM)(i:Int)(id:List Int)(w:World)(km:RowOk w m)(hi:I64 i)(hid:isId id)(ht:Tables w)(k1:fewB m.l=true):
  Rz 9 #[rowV m, .int .i64 i,idv id] w (.bool true):=by
 unfold Rz
 have HT:=hD ht
 have HH:=hD H
 have HKM:=hD km
 have HL:Hid (m.l.length=m.n):=km.l
 have HN63:Hid (m.n<9223372036854775808):=km.n63
 have HAW:Hid (Rt w 10 #[] (.bool true)):=fun u hu=>chawake_any H u (ht.below (EnvX.bel hu))
 have HFW:Hid (Rt w 11 #[.slice m.A m.n m.c] (.bool true)):=fun u hu=>by have h:=fewrow_any m u (km.up (EnvX.bel hu));rw[k1]at h;exact h
 have HMR:Hid (midRowR m.r):=(fewB_mid k1).1
 have HML:Hid (m.l.length≤50):=(fewB_mid k1).2
 have HFI:Hid (Rt w 28 #[.slice m.A m.n m.c,idv id] (.int .i64 (findB m.r id))):=fun u hu=>H.find m id u (km.up (EnvX.bel hu)) (by have:=(fewB_mid k1).2;omega) hid (ht.below (EnvX.bel hu))
 have HID:=hD hid
 have hf1:=find_low m.r id
 have hf2:=find_hit m.r id
 rw[m.r_len,km.l]at hf1
 obtain⟨f,hf⟩: ∃f,findB m.r id=f:=⟨_,rfl⟩
 rw[hf]at HFI hf1 hf2
 have HF1:=hD hf1
 have HF2:=hD hf2
 have DF1:Hid (decide (f< -1)=false):=decide_eq_false (by omega)
 have DF2:Hid (decide ((m.n:Int)≤f)=false):=decide_eq_false (by omega)
 have HI64:=hD hi
 have E1:Hid (EnvX w (w.alloc (.cells (arrB 32 id) 26)) [(w.heap.size,oc (arrB 32 id) 26)]):=(EnvX.start w).new _
 clear ht H km k1 hi hid hf hf1 hf2
 unfold rowV idv
 go_enter func9,ntmps9
 go_upto_region 1 with (fail)
 generalize w.alloc (.cells (arrB 32 id) 26)=W at *
 refine rgQ [0,1] [] E1 rfl fun hw=>?_
 refine qc rfl func10 (fun u hu=>HAW.out u (nl hu)) hw ?_
 refine qo rfl hw ?_
 refine enP fun u3 EX2=>?_
 go_upto_region 2 with (fail)
 refine rgQ [0,1,2] [] EX2 rfl fun hw=>?_
 refine qo rfl hw ?_
 refine qc rfl func11 (fun u hu=>HFW.out u (nl hu)) hw ?_
 refine qo rfl hw ?_
 refine enP fun u6 EX5=>?_
 go_upto_region 3 with (fail)
 refine rgQ [0,1,2,3,4,5] [] EX5 rfl fun hw=>?_
 refine qw 6 hw ?_
 refine enP fun u9 EX8=>?_
 go_upto_region 5 with (fail)
 refine rgQ [0,1,2,3] [] EX8 rfl fun hw=>?_
 refine qo rfl hw ?_
 refine qv rfl (fun u hu=>load_run_op u (box_load hu mH HID.out.1) rfl) hw ?_
 refine qc rfl func28 (fun u hu=>HFI.out u (nl hu)) hw ?_
 refine qo rfl hw ?_
 refine enP fun u12 EX11=>?_
 go_upto_region 6 with (fail)
 go_cut [46] (fun v wx=>v= .bool false∧Hid (EnvX w wx [(w.heap.size,oc (arrB 32 id) 26)]))
 case first=>
  by_cases f0:0≤f
  case neg=>
   have D10:Hid (decide (0≤f)=false):=decide_eq_false f0
   clear f0
   refine rgK [0,1,2,3,4,5,6,7,8,9,10,11,12,13,14,15,16,17,18,19,20,21] 0 EX11 rfl fun hw=>?_
   refine qo rfl hw ?_
   refine qv rfl (fun u hu=>ltZ_op u DF1.out rfl rfl) hw ?_
   refine qw 3 hw ?_
   refine qv rfl (fun u hu=>len_op underlying22 HN63.out u rfl) hw ?_
   refine qv rfl (fun u hu=>geZ_op u DF2.out rfl rfl) hw ?_
   refine qw 3 hw ?_
   refine qv rfl (fun u hu=>geZ_op u D10.out rfl rfl) hw ?_
   refine qw 11 hw ?_
   refine eH fun u15 EX14=>?_
   go_wp2_with fail
   go_meet
   exact⟨rfl,EX14.out⟩
  have D10:Hid (decide (0≤f)=true):=decide_eq_true f0
  obtain⟨kf,rfl⟩:=Int.eq_ofNat_of_zero_le f0
  have hkn:kf<m.n:=by have:=HF1.out.2;omega
  have hkl:kf<m.l.length:=by rw[HL.out];exact hkn
  have HKN:=hD hkn
  obtain⟨ad,hA,hld⟩:=HKM.out.loads hkl
  have hok:=HKM.out.m.get hkl
  have hfi:idH (atB m.r kf).h=id:=HF2.out f0
  rw[←RowM.at_h hkl]at hfi
  obtain⟨x,hx⟩: ∃x,m.l.getD kf noBlkM=x:=⟨_,rfl⟩
  rw[hx]at hld hok hfi
  have HAD:=hD hA
  have HLD:=hD hld
  have HOX:Hid (okHd x.h):=hok.h
  have HXI:=hD hfi
  have HNQ:Hid ((!eqL id id)=false):=by show _=_;unfold eqL;rw[decide_eq_true rfl];rfl
  clear f0 hkn hkl hA hld hok hx hfi
  refine rgK [0,1,2,3,4,5,6,7,8,9,10,11,12,13,14,15,16,17,18,19,20,21] 0 EX11 rfl fun hw=>?_
  refine qo rfl hw ?_
  refine qv rfl (fun u hu=>ltZ_op u DF1.out rfl rfl) hw ?_
  refine qw 3 hw ?_
  refine qv rfl (fun u hu=>len_op underlying22 HN63.out u rfl) hw ?_
  refine qv rfl (fun u hu=>geZ_op u DF2.out rfl rfl) hw ?_
  refine qw 3 hw ?_
  refine qv rfl (fun u hu=>geZ_op u D10.out rfl rfl) hw ?_
  refine qw 3 hw ?_
  refine qv (v:= .pointer (some (ad.add (kf*137)))) rfl (fun u hu=>by rw[HAD.out];exact idxSl_op (i:=kf) underlying22 aggBlk.size HKN.out u rfl rfl) hw ?_
  refine qv (v:= .pointer (some ((ad.add (kf*137)).add 0))) rfl (fun u hu=>fieldBlk_op (k:=0) (off:=0) (ad:=(ad.add (kf*137))) rfl u rfl) hw ?_
  refine qv rfl (fun u hu=>load_any_op u (HLD.out u (nl hu)).hd rfl) hw ?_
  refine qc (args:= #[hdV x.h]) (v:=idv id) rfl func32 (fun u hu=>by have h:=hid_any x.h u HOX.out (HT.out.below (EnvX.bel hu));rw[HXI.out]at h;exact h) hw ?_
  refine qv rfl (fun u hu=>load_run_op u (box_load hu mH HID.out.1) rfl) hw ?_
  refine qv rfl (fun u hu=>neqb_op HID.out.1 HID.out.1 HNQ.out u rfl rfl) hw ?_
  refine qw 2 hw ?_
  refine eH fun u115 EX114=>?_
  go_wp2_with fail
  go_meet
  exact⟨rfl,EX114.out⟩
 case rest=>
  obtain⟨rfl,he⟩:=hcut
  have E7:=hD he.out
  clear he EX11 HFI HF1 HF2 DF1 DF2
  by_cases cneg:i<0
  case pos=>
   have D1:Hid (decide (i<0)=true):=decide_eq_true cneg
   clear cneg
   go_upto_region 8 with (fail)
   refine rgQ [0,1,2,3,4,5,6,7] [] E7 rfl fun hw=>?_
   refine qo rfl hw ?_
   refine qv rfl (fun u hu=>ltZ_op u D1.out rfl rfl) hw ?_
   refine qw 6 hw ?_
   refine enP fun u303 EX302=>?_
   go_upto_region 9 with (fail)
   refine rgQ [0] [] EX302 rfl fun hw=>?_
   refine qo rfl hw ?_
   refine enP fun u306 EX305=>?_
   have HBE:=hD (EnvX.bel EX305.out)
   go_wp2
   go_ret
   exact⟨rfl,HBE.out⟩
  have D1:Hid (decide (i<0)=false):=decide_eq_false cneg
  by_cases cbig:(m.n:Int)≤i
  case pos=>
   have D6:Hid (decide ((m.n:Int)≤i)=true):=decide_eq_true cbig
   clear cbig
   go_upto_region 8 with (fail)
   refine rgQ [0,1,2,3,4,5,6,7] [] E7 rfl fun hw=>?_
   refine qo rfl hw ?_
   refine qv rfl (fun u hu=>ltZ_op u D1.out rfl rfl) hw ?_
   refine qw 3 hw ?_
   refine qv rfl (fun u hu=>len_op underlying22 HN63.out u rfl) hw ?_
   refine qv rfl (fun u hu=>geZ_op u D6.out rfl rfl) hw ?_
   refine qo rfl hw ?_
   refine enP fun u303 EX302=>?_
   go_upto_region 9 with (fail)
   refine rgQ [0] [] EX302 rfl fun hw=>?_
   refine qo rfl hw ?_
   refine enP fun u306 EX305=>?_
   have HBE:=hD (EnvX.bel EX305.out)
   go_wp2
   go_ret
   exact⟨rfl,HBE.out⟩
  have D6:Hid (decide ((m.n:Int)≤i)=false):=decide_eq_false cbig
  obtain⟨k,rfl⟩:=Int.eq_ofNat_of_zero_le (show 0≤i by omega)
  have hkn:k<m.n:=by omega
  have hkl:k<m.l.length:=by rw[HL.out];exact hkn
  have HKN:=hD hkn
  obtain⟨ad,hA,hld⟩:=HKM.out.loadsAll (show 0<m.l.length by omega)
  have hld1:=hld k hkl
  have hoy:=(HKM.out.m.get hkl).h
  have hle:=find_le m.r k (by rw[m.r_len];exact hkl)
  have hht:=find_hit m.r (idH (atB m.r k).h) hle.1
  obtain⟨q,hq⟩:=Int.eq_ofNat_of_zero_le hle.1
  rw[hq]at hht hle
  have hqn:q<m.n:=by have:=hle.2;omega
  have hql:q<m.l.length:=by rw[HL.out];exact hqn
  have hld2:=hld q hql
  have hox:=(HKM.out.m.get hql).h
  have hht2:idH (atB m.r q).h=idH (atB m.r k).h:=hht
  have hlv:=levels_at hkl
  rw[←RowM.at_h hql,←RowM.at_h hkl]at hht2
  rw[←RowM.at_h hkl]at hq
  have HQN:=hD hqn
  have DQ1:Hid (decide ((0:Int)≤(q:Int))=true):=decide_eq_true (by omega)
  have DQ2:Hid (decide ((q:Int)≤(k:Int))=true):=decide_eq_true hle.2
  obtain⟨y,hy⟩: ∃y,m.l.getD k noBlkM=y:=⟨_,rfl⟩
  obtain⟨x,hx⟩: ∃x,m.l.getD q noBlkM=x:=⟨_,rfl⟩
  rw[hy]at hld1 hoy hht2 hq hlv
  rw[hx]at hld2 hox hht2
  have HAD:=hD hA
  have HLY:=hD hld1
  have HLX:=hD hld2
  have HOY:Hid (okHd y.h):=hoy
  have HOX:Hid (okHd x.h):=hox
  have HXI:=hD hht2
  have HIY:Hid (isId (idH y.h)):=idH_id _
  have HEQ:Hid (eqL (idH y.h) (idH y.h)=true):=by show _=_;unfold eqL;exact decide_eq_true rfl
  have HFI:Hid (Rt w 28 #[.slice m.A m.n m.c,idv (idH y.h)] (.int .i64 (q:Int))):=fun u hu=>by
   have h:=HH.out.find m (idH y.h) u (HKM.out.up (EnvX.bel hu)) (by have:=HML.out;omega) (idH_id _) (HT.out.below (EnvX.bel hu))
   rw[hq]at h
   exact h
  have HLV:=hD hlv
  clear cneg cbig hkn hkl hA hld hld1 hoy hle hht hq hqn hql hld2 hox hht2 hy hx hlv
  obtain⟨iy,hiy⟩: ∃iy,idH y.h=iy:=⟨_,rfl⟩
  have HYI:=hD hiy
  rw[hiy]at HXI HIY HEQ HFI
  clear hiy
  obtain⟨lv,hlvv⟩: ∃lv,levelH y.h=lv:=⟨_,rfl⟩
  have HLW:=hD hlvv
  rw[hlvv]at HLV
  clear hlvv
  go_upto_region 8 with (fail)
  refine rgQ [0,1,2,3,4,5,6,7] [] E7 rfl fun hw=>?_
  refine qo rfl hw ?_
  refine qv rfl (fun u hu=>ltZ_op u D1.out rfl rfl) hw ?_
  refine qw 3 hw ?_
  refine qv rfl (fun u hu=>len_op underlying22 HN63.out u rfl) hw ?_
  refine qv rfl (fun u hu=>geZ_op u D6.out rfl rfl) hw ?_
  refine qo rfl hw ?_
  refine enP fun u303 EX302=>?_
  go_upto_region 10 with (fail)
  refine rgQ [0,1,2,3,4,5,6,7,8] [] EX302 rfl fun hw=>?_
  refine qw 3 hw ?_
  refine qv (v:= .pointer (some (ad.add (k*137)))) rfl (fun u hu=>by rw[HAD.out];exact idxSl_op (i:=k) underlying22 aggBlk.size HKN.out u rfl rfl) hw ?_
  refine qv (v:= .pointer (some ((ad.add (k*137)).add 0))) rfl (fun u hu=>fieldBlk_op (k:=0) (off:=0) (ad:=(ad.add (k*137))) rfl u rfl) hw ?_
  refine qv rfl (fun u hu=>load_any_op u (HLY.out u (nl hu)).hd rfl) hw ?_
  refine qc (args:= #[hdV y.h]) (v:=idv iy) rfl func32 (fun u hu=>by have h:=hid_any y.h u HOY.out (HT.out.below (EnvX.bel hu));rw[HYI.out]at h;exact h) hw ?_
  refine qc rfl func28 (fun u hu=>HFI.out u (nl hu)) hw ?_
  refine qo rfl hw ?_
  refine enP fun u306 EX305=>?_
  go_upto_region 11 with (fail)
  refine rgQ [0] [1,2] EX305 rfl fun hw=>?_
  refine qo rfl hw ?_
  refine wpG_nil<|qr (R:=FreshR 3 1 m.n ((levelsB m.r).map i64V)) rfl func22 (fun u hu=>callsR_fresh (HH.out.levels m u (HKM.out.up (EnvX.bel hu)) (by have:=HML.out;omega) (HT.out.below (EnvX.bel hu)))) ?_
  rintro x4 N4 hF hf he308
  obtain⟨gv,cv,cur,rfl,hN4,-,-,-,hcur⟩|⟨_,_,h0,_⟩:=hF
  case inr=>exact absurd HKN.out (by rw[h0];exact Nat.not_lt_zero _)
  have HNE:=hD hN4
  have HCU:Hid (cur[k*1]?=some (.int .i64 lv)):=take_at hcur HKN.out HLV.out
  clear hN4 hcur
  clear hf
  refine phE [2] [] he308 fun hw=>?_
  refine qo rfl hw ?_
  refine enP fun u311 EX310=>?_
  have E9:Hid (EnvX w u311 [(gv,oc cur 3),(w.heap.size,oc (arrB 32 id) 26)]):=by have h:=EX310.out;rw[HNE.out]at h;exact h
  clear EX310 HNE
  go_upto_region 12 with (fail)
  refine rgK [0,1,2,3,4,5,6,7,8,9,10,11,12,13,14,15,16,17,18,19,20,21,22,23,24,25,26,27,28,29,30,31,32,33,34,35,36,37,38,39,40,41,42] 0 E9 rfl fun hw=>?_
  refine qo rfl hw ?_
  refine qv rfl (fun u hu=>geZ_op u DQ1.out rfl rfl) hw ?_
  refine qw 3 hw ?_
  refine qv rfl (fun u hu=>leZ_op u DQ2.out rfl rfl) hw ?_
  refine qw 4 hw ?_
  refine qv (v:= .pointer (some (ad.add (q*137)))) rfl (fun u hu=>by rw[HAD.out];exact idxSl_op (i:=q) underlying22 aggBlk.size HQN.out u rfl rfl) hw ?_
  refine qv (v:= .pointer (some ((ad.add (q*137)).add 0))) rfl (fun u hu=>fieldBlk_op (k:=0) (off:=0) (ad:=(ad.add (q*137))) rfl u rfl) hw ?_
  refine qv rfl (fun u hu=>load_any_op u (HLX.out u (nl hu)).hd rfl) hw ?_
  refine qc (args:= #[hdV x.h]) (v:=idv iy) rfl func32 (fun u hu=>by have h:=hid_any x.h u HOX.out (HT.out.below (EnvX.bel hu));rw[HXI.out]at h;exact h) hw ?_
  refine qw 2 hw ?_
  refine qv (v:= .pointer (some (ad.add (k*137)))) rfl (fun u hu=>by rw[HAD.out];exact idxSl_op (i:=k) underlying22 aggBlk.size HKN.out u rfl rfl) hw ?_
  refine qv (v:= .pointer (some ((ad.add (k*137)).add 0))) rfl (fun u hu=>fieldBlk_op (k:=0) (off:=0) (ad:=(ad.add (k*137))) rfl u rfl) hw ?_
  refine qv rfl (fun u hu=>load_any_op u (HLY.out u (nl hu)).hd rfl) hw ?_
  refine qc (args:= #[hdV y.h]) (v:=idv iy) rfl func32 (fun u hu=>by have h:=hid_any y.h u HOY.out (HT.out.below (EnvX.bel hu));rw[HYI.out]at h;exact h) hw ?_
  refine qv rfl (fun u hu=>eqlb_op HIY.out.1 HIY.out.1 HEQ.out u rfl rfl) hw ?_
  refine qw 3 hw ?_
  refine qv rfl (fun u hu=>len_op underlying52 HN63.out u rfl) hw ?_
  refine qo rfl hw ?_
  refine qv rfl (fun u hu=>len_op underlying22 HN63.out u rfl) hw ?_
  refine qv rfl (fun u hu=>eqlI_op u (decide_eq_true rfl) rfl rfl) hw ?_
  refine qw 4 hw ?_
  refine qv (v:= .pointer (some ⟨gv,k*1,none⟩)) rfl (fun u hu=>idx0_op (i:=k) underlying52 intSize HKN.out u rfl rfl) hw ?_
  refine qv (v:= .int .i64 lv) rfl (fun u hu=>load_any_op u (run_load_one oneInt u (box_cell (k:=k*1) hu mH HCU.out)) rfl) hw ?_
  refine qw 2 hw ?_
  refine qv (v:= .pointer (some (ad.add (k*137)))) rfl (fun u hu=>by rw[HAD.out];exact idxSl_op (i:=k) underlying22 aggBlk.size HKN.out u rfl rfl) hw ?_
  refine qv (v:= .pointer (some ((ad.add (k*137)).add 0))) rfl (fun u hu=>fieldBlk_op (k:=0) (off:=0) (ad:=(ad.add (k*137))) rfl u rfl) hw ?_
  refine qv rfl (fun u hu=>load_any_op u (HLY.out u (nl hu)).hd rfl) hw ?_
  refine qc (args:= #[hdV y.h]) (v:= .int .i64 lv) rfl func35 (fun u hu=>by have h:=hlevel_any y.h u HOY.out (HT.out.below (EnvX.bel hu));rw[HLW.out]at h;exact h) hw ?_
  refine qv rfl (fun u hu=>eqlI_op u (decide_eq_true rfl) rfl rfl) hw ?_
  refine qw 2 hw ?_
  refine eH fun u334 EX333=>?_
  have HBE:=hD (EnvX.bel EX333.out)
  go_wp2
  go_ret
  exact⟨rfl,HBE.out⟩
theorem law_chfinds(H:ChainC)(m:RowM)(i:Int)(id:List Int)(w:World)(km:RowOk w m)(hi:I64 i)(hid:isId id)(ht:Tables w):
  Rz 9 #[rowV m, .int .i64 i,idv id] w (.bool true):=by
 unfold Rz
 cases k1:fewB m.l with
 |false=>exact law_chfinds_few H m i id w km hi hid ht k1
 |true=>exact law_chfinds_main H m i id w km hi hid ht k1
end Go.Proofs.YtojmeodoenkapaaGreatDoor
namespace Go.Proofs.YtojmeodoenkapaaGreatDoor.chainFinds
set_option maxRecDepth 8000
open Go.ChangeShapes Go.WideShapes Go.ChangeAt Go.RowKit
theorem contract(H:Type)(enc:TypeId × Value→H)(W:World)(base:Nat)(args:Array Value)(ds gs:List (DataW H))(before:List MemPlace)
  (hval: ∀(j:Nat) t v,Tryz.f9.params[j]?=some t→args[j]?=some v→Value.okWide Tryz.prog W .any base t v)
  (hW:DataW.Whole enc Tryz.prog Tryz.f9.params.toList Rows.chainFindsSpec.vars false W args.toList ds gs before) (hL:laidMetH Tryz.prog Rows.chainFindsRow.laid W):
  Calls Tryz.prog 9 args W fun e W'=> ∃v,e= .returned v∧Rows.chainFindsSpec.post enc Tryz.prog Tryz.f9 false true false false W args v W':=by
 have hW':=hW
 obtain⟨p,q,hA0,hV,rfl,hfz,hnd⟩:=hW
 have hA:DataW.TrodAll enc Tryz.prog W 0 (fun _=>true) true Tryz.f9.params.toList args.toList ds p:=hA0
 rw[Tryz.params9]at hA hval
 obtain⟨v0,vs0,d0,ds0,p0,q0,hargs,rfl,rfl,h0,r0⟩:=trodAll_cons hA
 obtain⟨v1,vs1,d1,ds1,p1,q1,rfl,rfl,rfl,h1,r1⟩:=trodAll_cons r0
 obtain⟨v2,vs2,d2,ds2,p2,q2,rfl,rfl,rfl,h2,r2⟩:=trodAll_cons r1
 obtain⟨rfl,rfl,rfl⟩:=trodAll_nil r2
 obtain rfl:args= #[v0,v1,v2]:=by cases args;simp_all
 obtain⟨rfl,rfl⟩:=trodVars_none hV
 have lt0: ∀x∈p0,x.block<W.heap.size:=by obtain⟨m,hm⟩:=h0;exact DataW.trod_lt m _ _ _ hm
 obtain⟨x0,rfl,kx0⟩:=open_blks (hval 0 22 v0 rfl rfl) h0
 obtain⟨x1,rfl,rfl,rfl,wx1⟩:=open_int underlying3 (hval 1 3 v1 rfl rfl) h1
 have lt2: ∀x∈p2,x.block<W.heap.size:=by obtain⟨m,hm⟩:=h2;exact DataW.trod_lt m _ _ _ hm
 obtain⟨x2,rfl,lx2,rx2⟩:=open_id (hval 2 26 v2 rfl rfl) h2
 clear hA0
 refine(law_chfinds chainC x0 x1 x2 W kx0 (bounds_i64 wx1) ⟨lx2,rx2⟩ (tables_of_laid hL)).mono fun e W'⟨he,bel⟩=>?_
 subst he
 exact⟨_,rfl,_,_,_,[],_,[],hW',trodAll_mk1 (shut_bool underlying4 _),(trodAll_cons_mk (Below.trod laidOut (by kernel_rfl) (of_decide_eq_true (by kernel_rfl)) h0 bel lt0) (trodAll_cons_mk (shut_int underlying3 wx1) (trodAll_cons_mk (Below.trod laidOut (by kernel_rfl) (of_decide_eq_true (by kernel_rfl)) h2 bel lt2) trodAll_mk0))),rfl,bel.frame _,fun h=>by cases h⟩
def start:Array Value:= #[.slice none 0 0, .int .i64 0,zeroId]
theorem reads(os:Os){H:Type}(enc:TypeId × Value→H): ∃places,DataW.whole enc Tryz.prog ((laidWorld os).forCall (fun _ _=>0) ⟨#[],start,[]⟩).memory Tryz.f9.params.toList Rows.chainFindsSpec.vars false start.toList 8=some ([.nil, .lit (.int .i64 0),zeroD],[],places):=
 ⟨[],by kernel_rfl⟩
theorem lifted(os:Os)(started:os.Started)(H:Type)(enc:TypeId × Value→H)(F:Stop.Interp):
  ReturnsInHanded {} Tryz.checked os 9 .any ((OpenSpec.ofChange Rows.chainFindsSpec).preRow enc Tryz.prog Tryz.f9 Rows.chainFindsRow.domain false Rows.chainFindsRow.laid) (((OpenSpec.ofChange Rows.chainFindsSpec).at F).post enc Tryz.prog Tryz.f9 false true false false):=by
 obtain⟨places,hx⟩:=reads os enc
 refine returnsInHanded_of_row (C:=Tryz.checked) (s:=OpenSpec.ofChange Rows.chainFindsSpec) own started (by kernel_rfl) func9
  (witness_row_at (enc:=enc) (C:=Tryz.checked) false (laidWorld os) start rfl (by kernel_rfl) (by kernel_rfl) (by kernel_rfl)
   (OpenSpec.preRow_of_cond 8 hx (by kernel_rfl) (fun k hk=>by cases hk) (by kernel_rfl) (laidMet_of_run' 8 (by kernel_rfl) (by kernel_rfl)))) ?_
 intro W base args ds gs before hval hW _ _ _ hL _ _
 exact contract H enc W base args ds gs before hval hW hL
theorem said:Rows.ChainFindsSaid:=
 OpenClaim.holds_of_cond 9 Tryz.f9 rfl rfl rfl rfl rfl rfl rfl ⟨rfl,rfl,rfl,rfl,rfl⟩ rfl rfl rfl rfl rfl (by kernel_rfl) func9 (by kernel_rfl)
  (of_decide_eq_true (by kernel_rfl)) (by unfold Func.isWrapper;first|(rw[if_pos (by decide+kernel)];kernel_rfl)|(rw[if_neg (by decide+kernel)];exact⟨rfl,rfl⟩))
  (fun os started H enc _ F=>by rw[OpenClaim.pre_eq_preRow];exact lifted os started H enc F)
theorem plain(f:FuncId)(fn:Func)(hf:Tryz.pinned.checked.prog.funcNamed "stepladder/stepladderlaw12.ChainFinds" =some f)(hfn:Tryz.pinned.checked.prog.funcs[f]?=some fn):
   false=Tryz.pinned.checked.prog.looks []∧ ∀(j:Nat) t,fn.params[j]?=some t→Tryz.pinned.checked.prog.wantsStandIn t=false:=by
 obtain rfl:f=9:=Option.some.inj ((show Tryz.prog.funcNamed "stepladder/stepladderlaw12.ChainFinds" =some 9 by kernel_rfl).symm.trans hf)|>.symm
 obtain rfl:fn=Tryz.f9:=(Option.some.inj (func9.symm.trans hfn)).symm
 refine⟨by kernel_rfl,fun j t ht=>?_⟩
 rw[Tryz.params9]at ht
 have hm:t=22∨t=3∨t=26:=by simpa using Array.mem_of_getElem? ht
 rcases hm with rfl|rfl|rfl
 · exact(show Tryz.prog.wantsStandIn 22=false by kernel_rfl)
 · exact(show Tryz.prog.wantsStandIn 3=false by kernel_rfl)
 · exact(show Tryz.prog.wantsStandIn 26=false by kernel_rfl)
theorem card:Rows.ChainFindsCardSaid:=
 Claim7.holds_tied_plain_at .later [] _ _ _ _ said (fun _ h=>by cases h) (by kernel_rfl) (fun _ h=>by cases h) chainFinds_row_tie rfl ⟨rfl,rfl⟩ (by kernel_rfl) rfl plain (by kernel_rfl)
end Go.Proofs.YtojmeodoenkapaaGreatDoor.chainFinds
