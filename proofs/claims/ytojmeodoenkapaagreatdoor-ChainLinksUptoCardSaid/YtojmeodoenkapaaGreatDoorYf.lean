/- Part of a proof. -/
import Derived.Test.YtojmeodoenkapaaGreatDoorYe
import Derived.Lib.Slices
import Derived.Lib.SliceRun
import Derived.Lib.AppendZeros
import Derived.Orders
import Derived.OrdersIn
import Derived.OwnWalkIn
import Derived.RangeFuncCalls
import Derived.WalkKit
import Derived.RangeFuncBox
import Derived.RangeFuncNested
import Derived.RangeFuncBound
import Derived.RangeFuncLeaves
import Derived.Shelf.Abstract
import Derived.Shelf.RegionOpen
import Derived.TacticsInMore
import Derived.LoopNIn
import Derived.LoopIn
import Derived.Lib.Strings
import Derived.Lib.Small
import Derived.Lib.Walk
import Derived.Lib.BitFns
open Go.Proofs.Tryz
namespace Go.Proofs.YtojmeodoenkapaaGreatDoor
set_option maxRecDepth 20000
set_option maxHeartbeats 8000000
set_option linter.unusedVariables false
set_option linter.unusedSimpArgs false
open Go.RowKit
theorem src_inC{w u:World}{ad:Addr}{ys:List Value}(h:CellsIn w w.heap.size (some ad) ys)(hb:Below w.heap.size w u):SrcAt u ad ys:=by
 intro j v hv
 have hp:0<ys.length:=by
  rcases Nat.eq_zero_or_pos ys.length with h0|h0
  · rw[List.eq_nil_of_length_eq_zero h0]at hv;simp at hv
  · exact h0
 obtain⟨ad',e,hlt,hc⟩:=h hp
 obtain rfl:=Option.some.inj e
 rw[hb.cell (by rw[block_of_add];exact hlt)]
 exact hc j v hv
theorem pworth_any(l:List OutR)(A:Option Addr)(n c:Nat)(w:World)(hl:l.length=n)(hn:n≤1000)(hA:OutsIn w w.heap.size A l)(hm: ∀o∈l,mayOut o=true):
  Rz 213 #[.slice A n c] w (.int .i64 (worthL l)):=by
 unfold Rz
 have HL:=hD hl
 have HN:Hid (n≤1000):=hn
 have HN63:Hid (n<9223372036854775808):=by show _<_;omega
 have HAA:=hD hA
 have HMO:=hD hm
 have E1:Hid (EnvX w w []):=EnvX.start w
 clear hl hn hA hm
 go_enter func213,ntmps213
 go_upto_region 1 with (fail)
 refine rgQ [0] [] E1 rfl fun hw=>?_
 refine qo rfl hw ?_
 refine enP fun u3 EX2=>?_
 go_upto_region 2 with (fail)
 refine rgQ [0,1,2] [] EX2 rfl fun hw=>?_
 refine qo rfl hw ?_
 refine qv rfl (fun u hu=>len_op underlying75 HN63.out u rfl) hw ?_
 refine qo rfl hw ?_
 refine enP fun u6 EX5=>?_
 have EJ:=hD EX5.out
 clear EX5 E1
 go_upto_region 3 with (fail)
 go_loopw [3,8] (fun sv iv u=> ∃i:Nat,i≤n∧iv= .int .i64 (i:Int)∧sv= .int .i64 (worthL (l.take i))∧Hid (EnvX w u [])) (fun _ iv _=>n- (intOf iv).toNat)
 case atStart=>exact⟨0,by omega,rfl,rfl,EJ.out⟩
 case round=>
  obtain⟨i,hi,rfl,rfl,hinv⟩:=hrel
  have EK:=hD hinv.out
  clear hinv EJ
  by_cases hlt:i<n
  · have C4:Hid (decide ((i:Int)<(n:Int))=true):=decide_eq_true (by omega)
    have HI:=hD hlt
    have hil:i<l.length:=by rw[HL.out];exact hlt
    obtain⟨ad,rfl,-,hld⟩:=HAA.out.loads hil
    have HLD:=hD hld
    have hst:=worthL_step noOut hil
    have hbs:=worthL_bound (l:=l.take i) (fun o ho=>HMO.out o (List.mem_of_mem_take ho))
    rw[List.length_take,Nat.min_eq_left (by omega)]at hbs
    have hby:=outV_bound (HMO.out (l.getD i noOut) (by rw[gD,gE hil];exact List.getElem_mem hil))
    obtain⟨y,hy⟩: ∃y,l.getD i noOut=y:=⟨_,rfl⟩
    rw[hy]at HLD hst hby
    have hn3:=HN.out
    have HADD:Hid (IntKind.i64.wrap (worthL (l.take i)+y.v)=worthL (l.take (i+1))):=by show _=_;rw[hst,wrapS (by omega)]
    clear hld hil hlt hy hst hbs hby hn3
    generalize worthL (l.take i)=s0 at *
    obtain⟨s1,hs1⟩: ∃s1,worthL (l.take (i+1))=s1:=⟨_,rfl⟩
    rw[hs1]at HADD
    have HS1:=hD hs1
    clear hs1
    go_upto_region 3 with (fail)
    refine rgQ [0] [] EK rfl fun hw=>?_
    refine qv rfl (fun u hu=>ltZ_op u C4.out rfl rfl) hw ?_
    refine enP fun u103 EX102=>?_
    go_upto_region 4 with (fail)
    refine rgQ [0,1] [2,3] EX102 rfl fun hw=>?_
    refine qv rfl (fun u hu=>idxSl_op underlying75 aggOut.size HI.out u rfl rfl) hw ?_
    refine qv rfl (fun u hu=>load_any_op u (HLD.out u (nl hu)).1 rfl) hw ?_
    refine wpG_nil<|qn rfl (new_out _) fun gc HG6 he105=>?_
    change lexH _ _ _ _ _ _ [(gc,oc (outA noOut) 135)]
    refine(sh rfl HG6 (infoOut _ (outA_size _)) ((outA_size _).trans (outA_size _).symm) (outA_one _) ?_)
    refine fun _=>enL fun u108 EX107=>?_
    go_upto_region 5 with (fail)
    refine rgQ [0,1,2,3,4] [] EX107 rfl fun hw=>?_
    refine qw 2 hw ?_
    refine ql rfl mH trivial hw ?_
    refine qv rfl (fun u hu=>addZ_op u HADD.out rfl rfl) hw ?_
    refine qo rfl hw ?_
    refine enP fun u111 EX110=>?_
    have hii:=HI.out
    have hn:=HN63.out
    go_wp2
    go_roundw
    case rel=>exact⟨i+1,by omega,by go_num,by rw[HS1.out],EX110.out.sub (fun _ h=>by cases h)⟩
    case measure=>simp[intOf];omega
  · obtain rfl:i=n:=by omega
    have C4:Hid (decide ((i:Int)<(i:Int))=false):=decide_eq_false (by omega)
    have HT:Hid (l.take i=l):=tL (by rw[HL.out];exact Nat.le_refl _)
    rw[HT.out]
    go_upto_region 3 with (fail)
    refine rgQ [0] [] EK rfl fun hw=>?_
    refine qv rfl (fun u hu=>ltZ_op u C4.out rfl rfl) hw ?_
    refine enP fun u203 EX202=>?_
    go_upto_region 7 with (fail)
    refine rgQ [0,1] [] EX202 rfl fun hw=>?_
    refine qw 2 hw ?_
    refine enP fun u206 EX205=>?_
    have HBE:=hD (EnvX.bel EX205.out)
    go_wp2
    go_ret
    exact⟨rfl,HBE.out⟩
section
variable {a:Act}{dst:Option Tmp}{ty:TypeId}{pos:String}{after:Array Edge}{gd:Option (Nat × Bool)}
theorem FAt_cos0(u:World):FAt Tryz.prog ⟨dst, .buildSlice 39 0 #[],ty,pos,after,gd⟩ a (fun v N=> ∃g,v= .slice (some ⟨g,0,none⟩) 0 0∧N=[(g,oc #[] 137)]) u:=by
 have h:(execOp a.eval ⟨dst, .buildSlice 39 0 #[],ty,pos,after,gd⟩).run Tryz.prog u= .ok (.value (.slice (some ⟨u.heap.size,0,none⟩) 0 0)) (u.alloc (.cells #[] 137)):=by
  unfold execOp
  go_simp
 unfold FAt
 rw[h]
 refine⟨(Below.refl _ _).alloc (Nat.le_refl _) _,_,⟨_,rfl,rfl⟩,fun y hy=>?_⟩
 cases mS.1 hy
 exact⟨Nat.le_refl _,heap_alloc_new u _⟩
end
theorem pclone_any(p:List CoinR)(A:Option Addr)(n c:Nat)(w:World)(hl:p.length=n)(hn:n≤1000000)(hI:okP p)(hA:CoinsIn w w.heap.size A p):
  Calls Tryz.prog 131 #[.slice A n c] w fun e w'=>(∃v,e= .returned v∧w'.ownsRow w.heap.size 137 35 v n (p.map coC).flatten)∧Below w.heap.size w w':=by
 have HPL:Hid ((p.map coC).flatten.length=n*35):=by show _=_;rw[flat35 hI.lens,hl]
 have HNB:Hid (n≤1000000):=hn
 have E1:Hid (EnvX w w []):=EnvX.start w
 have q22: ∀(w:World)(a:Option Addr)(n c n' c':Nat),(binOp .eql 39 (.slice a n c) (.slice none n' c')).run Tryz.prog w= .ok (.bool a.isNone) w:=fun w a n c n' c'=>Lib.run_eql_slice_nil w _ _ a n c n' c' underlying39
 cases A with
 | none=>
  obtain rfl:p=[]:=by
   refine List.eq_nil_of_length_eq_zero (Nat.eq_zero_of_not_pos fun hp=>?_)
   obtain⟨ad,e,_⟩:=CoinsIn.loads hA hI (k:=0) hp
   cases e
  subst hl
  clear hI hA HPL
  go_enter func131,ntmps131
  go_wp2
  go_ret
  exact⟨⟨_,rfl,World.ownsRow_nil _ _ _ _⟩,Below.refl _ _⟩
 |some ad=>
  have HA:Hid (CellsIn w w.heap.size (some ad) (p.map coC).flatten):=hA
  clear hI hA hl
  go_enter func131,ntmps131
  go_upto_region 3 with (fail)
  refine wp_region_Hx (w0:=w) [0,1,2,3] [] rfl E1.out ?_
  refine(hOp_fresh (R:=fun v N=> ∃g,v= .slice (some ⟨g,0,none⟩) 0 0∧N=[(g,oc #[] 137)]) (M0:=[]) rfl rfl (fun _ h=>h) (fun u hu=>FAt_cos0 u) ?_)
  rintro _ _ ⟨g0,rfl,rfl⟩ hf he1;intro K' hK';go_big_quiet_op;go_big_quiet_on
  have HG0:=hD (hf _ (mS.2 rfl))
  clear hf
  refine phE [1] [2,3] he1 fun hw=>?_
  refine qo rfl hw ?_
  refine wpG_nil<|(hOp_own (gd:=none) (R:=GrownR w 137 35 (0+n) ([]++(p.map coC).flatten) []) rfl rfl rfl rfl (fun u hu=>appX_op elCo (n:=0) (m:=n) (xs:=[]) [] hu rfl HPL.out (coins_one p) (.inl ⟨g0,0,#[],rfl,rfl,Nat.le_refl _,Nat.zero_le _,rfl,rfl⟩) (mA ⟨⟨mH,HG0.out.1⟩,fun _ h=>by cases h⟩) (src_inC HA.out (EnvX.bel hu)) (fun _ h=>by cases h) (by have:=HNB.out;omega) rfl rfl) ?_)
  rintro x1 M' ⟨N2,rfl,hF2,hn2⟩ he3;intro K' hK';go_big_quiet_op;go_big_quiet_on
  have HF2:=hD (And.intro hF2 hn2)
  clear hF2 hn2
  refine phE [3] [] he3 fun hw=>?_
  refine qo rfl hw ?_
  refine enP fun u6 EX5=>?_
  go_wp2
  go_ret
  refine⟨⟨_,rfl,?_⟩,EnvX.bel EX5.out⟩
  have h:=HF2.out.1
  rw[List.nil_append,Nat.zero_add]at h
  exact h.own HPL.out (fun y hy=>⟨(HF2.out.2 y hy).1,EnvX.box EX5.out _ _ (mL hy)⟩)
theorem pdelete_any(l:List CoinR)(q k g cap:Nat)(cur:Array Value)(w0 w:World)(M0:Boxes)(hl:l.length=q+1)(hk:k≤q)(hn:q≤1000000)(hI:okP l)(hg:w0.heap.size≤g)(hE:EnvX w0 w ((g,oc cur 137)::M0))(hM0: ∀y∈M0,y.1≠g)(hc:q+1≤cap)(hcm:cap≤maxLen)(hsz:cur.size=cap*35)(hxs:cur.toList.take ((q+1)*35)=(l.map coC).flatten):
  Calls Tryz.prog 236 #[.slice (some ⟨g,0,none⟩) (q+1) cap, .int .i64 (k:Int), .int .i64 ((k+1:Nat):Int)] w fun e w''=> ∃x M',e= .returned x∧EnvX w0 w'' M'∧GrownR w0 137 35 q ((l.take k++l.drop (k+1)).map coC).flatten M0 x M':=by
 have HN63:Hid (q+1<9223372036854775808):=by show _<_;omega
 have HQ63:Hid (q<9223372036854775808):=by show _<_;omega
 have HG:=hD hg
 have E1:=hD hE
 have HM0:Hid (∀y∈M0,y.1≠g):=hM0
 have HC:=hD hc
 have HCM:=hD hcm
 have HSZ:=hD hsz
 have HK:=hD hk
 have HKN:Hid (decide ((k:Int)=((k+1:Nat):Int))=false):=decide_eq_false (by omega)
 have HXT:Hid (cur.toList.take (k*35)=((l.take k).map coC).flatten):=by
  show _=_
  have h1:=(rowsCo hI.lens).flat_take k
  rw[←List.map_take]at h1
  rw[h1,←hxs,List.take_take,Nat.min_eq_left (by omega)]
 have hlen:((l.drop (k+1)).map coC).flatten.length=(q- k)*35:=by rw[flat35 (fun c hc=>hI.lens c (List.mem_of_mem_drop hc)),List.length_drop,hl];omega
 have HYL:Hid (((l.drop (k+1)).map coC).flatten.length=(q+1- (k+1))*35):=by show _=_;rw[hlen];congr 1;omega
 have HRR:Hid (k+(q+1- (k+1))=q):=by show _=_;omega
 obtain⟨ad,had,hsrc⟩: ∃ad,cutX 35 (some ⟨g,0,none⟩) (k+1) cap=some ad∧ ∀u,EnvC w0 ((g,oc cur 137)::M0) u→SrcAt u ad ((l.drop (k+1)).map coC).flatten:=by
  unfold cutX
  by_cases hcc:cap=k+1
  · rw[if_pos hcc]
    refine⟨_,rfl,fun u _ j v hv=>?_⟩
    have h0:((l.drop (k+1)).map coC).flatten=[]:=List.eq_nil_of_length_eq_zero (by rw[hlen];omega)
    rw[h0]at hv
    simp at hv
  · rw[if_neg hcc]
    refine⟨_,rfl,fun u hu=>?_⟩
    show SrcAt u ((⟨g,0,none⟩:Addr).add ((k+1)*35)) _
    rw[Addr.add_mid]
    refine src_box hu mH ?_
    rw[hlen,Nat.zero_add]
    have h1:=(rowsCo hI.lens).flat_drop (k+1)
    rw[←List.map_drop,←hxs,List.drop_take]at h1
    rw[h1]
    congr 1
    omega
 have HAD:=hD had
 have HSRC:=hD hsrc
 have HAQ:Hid (cutX 35 (some ⟨g,0,none⟩) q cap=some ⟨g,q*35,none⟩):=by
  show _=_
  unfold cutX
  rw[if_neg (by omega)]
  simp only[Option.map_some,Addr.add_mid,Nat.zero_add]
 have hres:((l.take k++l.drop (k+1)).map coC).flatten=((l.take k).map coC).flatten++((l.drop (k+1)).map coC).flatten:=by rw[List.map_append,List.flatten_append]
 rw[hres]
 generalize ((l.take k).map coC).flatten=xs at *
 have HON:=hD (coins_one (l.drop (k+1)))
 generalize ((l.drop (k+1)).map coC).flatten=ys at *
 clear hl hk hn hI hg hE hM0 hc hcm hsz hxs hlen had hsrc hres
 go_enter func236,ntmps236
 go_upto_region 1 with (fail)
 refine rgQ [0,1,2,3,4,5] [] E1 rfl fun hw=>?_
 refine qw 4 hw ?_
 refine qv rfl (fun u hu=>len_op underlying39 HN63.out u rfl) hw ?_
 refine qv (v:= .slice (cutX 35 (some ⟨g,0,none⟩) k (q+1)) (k+1- k) (q+1- k)) rfl (fun u hu=>cutXlhm_op elCo u (Nat.le_succ _) (Nat.succ_le_succ HK.out) HC.out rfl rfl rfl rfl) hw ?_
 refine enP fun u3 EX2=>?_
 go_upto_region 2 with (fail)
 refine rgQ [0,1,2] [] EX2 rfl fun hw=>?_
 refine qw 2 hw ?_
 refine qv rfl (fun u hu=>eqlI_op u HKN.out rfl rfl) hw ?_
 refine enP fun u6 EX5=>?_
 go_upto_region 4 with (fail)
 refine rgQ [0,1,2] [] EX5 rfl fun hw=>?_
 refine qo rfl hw ?_
 refine qv rfl (fun u hu=>len_op underlying39 HN63.out u rfl) hw ?_
 refine qo rfl hw ?_
 refine enP fun u9 EX8=>?_
 go_upto_region 5 with (fail)
 refine rgK [0,1,2,3,4,5] 2 EX8 rfl fun hw=>?_
 refine qw 2 hw ?_
 refine qv (v:= .slice (some ⟨g,0,none⟩) k cap) rfl (fun u hu=>cutXh_op elCo u (by have h1:=HC.out;have h2:=HK.out;omega) rfl rfl) hw ?_
 refine qw 2 hw ?_
 refine qv (v:= .slice (some ad) (q+1- (k+1)) (cap- (k+1))) rfl (fun u hu=>cutXlE_op elCo u (Nat.succ_le_succ HK.out) HAD.out rfl rfl rfl) hw ?_
 refine wpG_nil<|aO 6 (hOp_own (gd:=none) (R:=fun v M'=>v= .slice (some ⟨g,0,none⟩) q cap∧RowIs 137 35 g q cap (xs++ys) M0 M') rfl rfl rfl rfl (fun u hu=>appIn_op elCo M0 hu HG.out mH (fun y hy=>⟨mT hy,HM0.out y hy⟩) HRR.out (by have h1:=HC.out;omega) HSZ.out HXT.out HYL.out HON.out (HSRC.out u hu) rfl rfl) ?_)
 rintro _ _ ⟨rfl,cur2,rfl,hs2,hx2⟩ he11;intro K' hK';go_big_quiet_op;go_big_quiet_on
 have HS2:=hD hs2
 have HX2:=hD hx2
 clear hs2 hx2
 refine phF [7] 0 rfl he11 fun hw=>?_
 refine qo rfl hw ?_
 refine eH fun u14 EX13=>?_
 go_upto_region 6 with (fail)
 refine rgQ [0,1,2,3,4] [5] EX13 rfl fun hw=>?_
 refine qw 2 hw ?_
 refine qv rfl (fun u hu=>len_op underlying39 HQ63.out u rfl) hw ?_
 refine qo rfl hw ?_
 refine qv (v:= .slice (some ⟨g,q*35,none⟩) 1 (cap- q)) rfl (fun u hu=>cutXlhE_op elCo u (show q≤q+1 by omega) HC.out (show q+1- q=1 by omega) HAQ.out rfl rfl rfl) hw ?_
 refine wpG_nil<|(hOp_own (gd:=none) (R:=fun v M'=>v= .tuple #[]∧RowIs 137 35 g q cap (xs++ys) M0 M') rfl rfl rfl rfl (fun u hu=>clearIn_op elCo M0 (fun v hv=>coC_one noC0 v hv) hu HG.out mH (fun y hy=>⟨mT hy,HM0.out y hy⟩) Nat.one_pos rfl (by have h1:=HC.out;omega) HS2.out HX2.out rfl) ?_)
 rintro _ _ ⟨rfl,cur3,rfl,hs3,hx3⟩ he16;intro K' hK';go_big_quiet_op;go_big_quiet_on
 have HS3:=hD hs3
 have HX3:=hD hx3
 clear hs3 hx3
 change lexH _ _ _ _ _ _ ((g,oc cur3 137)::M0)
 refine enL fun u18 EX17=>?_
 go_upto_region 7 with (fail)
 refine rgQ [0,1] [] EX17 rfl fun hw=>?_
 refine qw 2 hw ?_
 refine enP fun u21 EX20=>?_
 have EF:=hD EX20.out
 have HCL:=HC.out
 go_wp2
 go_ret
 exact⟨_,_,rfl,EF.out,[(g,oc cur3 137)],rfl, .inl ⟨g,cap,cur3,rfl,rfl,by omega,HCM.out,HS3.out,HX3.out⟩,fun y hy=>by cases mS.1 hy;exact⟨HG.out,HM0.out⟩⟩
def WoR(p:List CoinR)(xs:List InR)(w:World)(B:Nat)(v:Value)(m:Int)(b:Bool):Prop:=match takeP p xs with
  |none=>v= .slice none 0 0∧m=0∧b=false
  |some r=>w.ownsRow B 137 35 v r.1.length (r.1.map coC).flatten∧m=r.2∧b=true
def WoE(p:List CoinR)(xs:List InR)(w:World)(B:Nat)(e:Ending):Prop:= ∃v m b,e= .returned (.tuple #[v, .int .i64 m, .bool b])∧WoR p xs w B v m b
theorem WoE.mk{p:List CoinR}{xs:List InR}{w:World}{B:Nat}(v:Value)(m:Int)(b:Bool)(h:WoR p xs w B v m b):WoE p xs w B (.returned (.tuple #[v, .int .i64 m, .bool b])):=⟨v,m,b,rfl,h⟩
theorem pwithout_any (p:List CoinR) (A:Option Addr) (n c:Nat) (xs:List InR) (A1:Option Addr) (n1 c1:Nat) (w:World) (hl:p.length=n) (hI:okP p) (hmay:mayP p=true) (hA:CoinsIn w w.heap.size A p) (hl1:xs.length=n1) (hn1:n1≤1000) (hI1:okIns xs) (hA1:InsIn w w.heap.size A1 xs):
  Calls Tryz.prog 229 #[.slice A n c, .slice A1 n1 c1] w fun e w'=>WoE p xs w' w.heap.size e∧Below w.heap.size w w':=by
 have hn48:n≤48:=by rw[←hl];exact(mayP_iff.1 hmay).1
 have HCLN:Hid (∀u,Below w.heap.size w u→Calls Tryz.prog 131 #[.slice A n c] u fun e w'=>(∃v,e= .returned v∧w'.ownsRow u.heap.size 137 35 v n (p.map coC).flatten)∧Below u.heap.size u w'):=fun u hu=>pclone_any p A n c u hl (by omega) hI (CellsIn.up hA hu)
 have HL:=hD hl
 have HPP:=hD hI
 have HMAY:=hD hmay
 have HL1:=hD hl1
 have HN1:Hid (n1≤1000):=hn1
 have HM63:Hid (n1<9223372036854775808):=by show _<_;omega
 have HI1:=hD hI1
 have HA1:Hid (InsIn w w.heap.size A1 xs):=hA1
 have E1:Hid (EnvX w w []):=EnvX.start w
 clear hl hI hmay hA hl1 hn1 hI1 hA1 hn48
 go_enter func229,ntmps229
 go_upto_region 1 with (fail)
 refine rgQ [0] [1,2,3] E1 rfl fun hw=>?_
 refine qo rfl hw ?_
 refine wpG_nil<|qr rfl func131 (fun u hu=>callsR_fresh (HCLN.out u (EnvX.bel hu))) ?_
 rintro x0 N0 hF hf he2
 have HF0:=hD (And.intro hF hf)
 clear hF
 clear hf
 refine phE [2,3] [] he2 fun hw=>?_
 refine qw 2 hw ?_
 refine enP fun u5 EX4=>?_
 go_upto_region 2 with (fail)
 refine rgQ [0,1,2] [] EX4 rfl fun hw=>?_
 refine qo rfl hw ?_
 refine qv rfl (fun u hu=>len_op underlying74 HM63.out u rfl) hw ?_
 refine qo rfl hw ?_
 refine enP fun u8 EX7=>?_
 have HINV:Hid (takeP p (xs.take 0)=some (p,0)∧ ∃N,FreshR 137 35 p.length (p.map coC).flatten x0 N∧freshN w N []∧EnvX w u8 (N++[])):=by
  refine⟨rfl,N0,?_,HF0.out.2,EX7.out⟩
  rw[HL.out]
  exact HF0.out.1
 clear EX7 E1 HF0
 go_upto_region 3 with (fail)
 go_loopw [7,8,16] (fun lv mv iv u=> ∃(i:Nat)(l:List CoinR)(m:Int),i≤n1∧iv= .int .i64 (i:Int)∧mv= .int .i64 m∧Hid (takeP p (xs.take i)=some (l,m)∧ ∃N,FreshR 137 35 l.length (l.map coC).flatten lv N∧freshN w N []∧EnvX w u (N++[]))) (fun _ _ iv _=>n1- (intOf iv).toNat)
 case atStart=>exact⟨0,p,0,by omega,rfl,rfl,HINV⟩
 case round=>
  obtain⟨i,l,m,hi,rfl,rfl,hinv⟩:=hrel
  obtain⟨htk,N,hF,hfr,hE⟩:=hinv.out
  have EK:=hD hE
  have HTK:=hD htk
  have htb:=take_bounds HMAY.out HPP.out htk
  have HTB:=hD htb
  have hup:upP l:=(mayP_iff.1 HMAY.out).2.2.sublist (take_some _ _ _ htk).1
  have HUP:=hD hup
  have HF:=hD hF
  have HFR:=hD hfr
  clear hinv HINV hE htk htb hF hfr hup
  by_cases hlt:i<n1
  · have C3:Hid (decide ((i:Int)<(n1:Int))=true):=decide_eq_true (by omega)
    have HI:=hD hlt
    have hil:i<xs.length:=by rw[HL1.out];exact hlt
    have HIL:=hD hil
    obtain⟨ad,hA1,-,hld⟩:=HA1.out.loads HI1.out hil
    have hA1':A1=some ad:=hA1
    subst hA1'
    have HLD:=hD hld
    have HXO:Hid (okIn (xs.getD i noIn)):=HI1.out.get hil
    have HX:Hid (lenI (xs.getD i noIn)):=HXO.out.len
    obtain⟨x,hx⟩: ∃x,xs.getD i noIn=x:=⟨_,rfl⟩
    have HXE:=hD hx
    rw[hx]at HLD HX HXO
    obtain⟨A3,c3,rfl,hc1,hc2⟩:=FreshR.formC HF.out
    have HFD0:Hid (∀u,EnvX w u (N++[])→Calls Tryz.prog 235 #[.slice A3 l.length c3,inV x] u fun e w'=>e= .returned (.int .i64 (findP l x))∧Below u.heap.size u w'):=fun u hu=>
      pfind_any l A3 l.length c3 x u rfl (by have:=HTB.out.2.1;omega) hc1 hc2 HTB.out.1 HUP.out (own_cells (HF.out.own (B:=0) (flat35 HTB.out.1.lens) (fun y hy=>⟨Nat.zero_le _,hu.box _ _ (mL hy)⟩))) HXO.out
    obtain⟨kf,hkf⟩: ∃kf,findP l x=kf:=⟨_,rfl⟩
    have HKF:=hD hkf
    rw[hkf]at HFD0
    have HFD:=hD HFD0.out
    clear hlt hil hA1 hld hx hc1 hc2 hkf HFD0
    go_upto_region 3 with (fail)
    refine rgQ [0] [] EK rfl fun hw=>?_
    refine qv rfl (fun u hu=>ltZ_op u C3.out rfl rfl) hw ?_
    refine enP fun u23 EX22=>?_
    go_upto_region 4 with (fail)
    refine rgQ [0,1] [2,3] EX22 rfl fun hw=>?_
    refine qv rfl (fun u hu=>idxSl_op underlying74 aggIn.size HI.out u rfl rfl) hw ?_
    refine qv rfl (fun u hu=>load_any_op u (HLD.out u (nl hu)).1 rfl) hw ?_
    refine wpG_nil<|qn rfl (new_in _) fun gx HG6 he25=>?_
    change lexH _ _ _ _ _ _ ((gx,oc (inA noIn) 133)::(N++[]))
    refine(sh rfl HG6 (infoIn _ (inA_size HX.out)) ((noIn_size).trans (inA_size HX.out).symm) (inA_one _) ?_)
    refine fun _=>enL fun u28 EX27=>?_
    go_upto_region 5 with (fail)
    refine rgQ [0,1,2,3] [] EX27 rfl fun hw=>?_
    refine qo rfl hw ?_
    refine ql rfl mH HX.out hw ?_
    refine qc rfl func235 (fun u hu=>HFD.out u (EnvX.sub hu (fun y hy=>mT hy))) hw ?_
    refine qo rfl hw ?_
    refine enP fun u31 EX30=>?_
    by_cases hk:kf<0
    · have C6:Hid (decide (kf<0)=true):=decide_eq_true hk
      have HNO:Hid (takeP p xs=none):=take_stopC noIn HIL.out HTK.out (by
        rw[HXE.out]
        rcases findP_cases l x with ⟨e,_⟩|⟨j,_,e,_⟩
        · exact e
        · rw[HKF.out]at e;omega)
      clear hk
      go_upto_region 6 with (fail)
      refine rgQ [0,1] [] EX30 rfl fun hw=>?_
      refine qo rfl hw ?_
      refine qv rfl (fun u hu=>ltZ_op u C6.out rfl rfl) hw ?_
      refine enP fun u34 EX33=>?_
      go_upto_region 7 with (fail)
      refine rgQ [0,1,2] [] EX33 rfl fun hw=>?_
      refine qw 3 hw ?_
      refine enP fun u37 EX36=>?_
      have HBE:=hD (EnvX.bel EX36.out)
      go_wp2
      go_returns
      exact⟨WoE.mk (.slice none 0 0) 0 false (by unfold WoR;rw[HNO.out];exact⟨rfl,rfl,rfl⟩),HBE.out⟩
    obtain⟨k,rfl⟩: ∃k:Nat,kf=(k:Int):=Int.eq_ofNat_of_zero_le (by omega)
    have C6:Hid (decide ((k:Int)<0)=false):=decide_eq_false hk
    have hpl:=find_place noC0 HKF.out
    have hkl:=hpl.1
    have hst:=take_stepC (xs:=xs) noIn noC0 HIL.out HTK.out (by rw[HXE.out];exact HKF.out)
    have HTB2:=hD (take_bounds HMAY.out HPP.out hst)
    have HST:=hD hst
    obtain⟨q,hq⟩: ∃q,l.length=q+1:=⟨l.length- 1,by omega⟩
    rcases HF.out with ⟨g,cap,cur,e1,e2,f1,f2,f3,f4⟩|⟨_,_,f0,_⟩
    case inr=>omega
    injection e1 with e1 e3 e4
    have e4':=e4.symm
    clear e4
    subst e1 e2 e4'
    have HGW:=hD (HFR.out _ (mS.2 rfl))
    have HLV:Hid (∀u,EnvX w u [(g,oc cur 137)]→(loadVar 3 ((⟨g,0,none⟩:Addr).add (k*35)|>.add 33)).run Tryz.prog u= .ok (.int .i64 (l.getD k noC0).v) u):=fun u hu=>by
      have h1:=own_cells (HF.out.own (w:=u) (B:=0) (flat35 HTB.out.1.lens) (fun y hy=>⟨Nat.zero_le _,hu.box _ _ hy⟩))
      obtain⟨ad3,e5,-,hl3⟩:=CoinsIn.loads h1 HTB.out.1 hkl
      cases e5
      exact(hl3 u (EnvX.start u)).2.2.2.2.2.1
    have HKL:Hid (k<q+1):=by show _<_;omega
    have HPI:Hid (IntKind.i64.wrap ((k:Int)+1)=((k+1:Nat):Int)):=by show _=_;have:=HTB.out.2.1;rw[wrapS (by omega)];omega
    have HADD:Hid (IntKind.i64.wrap (m+(l.getD k noC0).v)=m+(l.getD k noC0).v):=wrapS (by have:=HTB2.out.2.2.1;have:=HTB2.out.2.2.2.1;omega)
    have HQL:Hid ((l.take k++l.drop (k+1)).length=q):=by show _=_;rw[lA,List.length_take,List.length_drop];omega
    have HDL:Hid (∀u M0,EnvX w u ((g,oc cur 137)::M0)→(∀y∈M0,y.1≠g)→Calls Tryz.prog 236 #[.slice (some ⟨g,0,none⟩) (q+1) cap, .int .i64 (k:Int), .int .i64 ((k+1:Nat):Int)] u fun e w''=> ∃x M',e= .returned x∧EnvX w w'' M'∧GrownR w 137 35 q ((l.take k++l.drop (k+1)).map coC).flatten M0 x M'):=fun u M0 hu hm=>
      pdelete_any l q k g cap cur w u M0 hq (by omega) (by have:=HTB.out.2.1;omega) HTB.out.1 HGW.out.1 hu hm (by omega) f2 f3 (by rw[←hq];exact f4)
    rw[hq]
    have HQ:=hD hq
    generalize hyv:(l.getD k noC0).v=yv at HLV HADD
    have HYV:=hD hyv
    clear hk hpl hkl hst hq f1 f2 f3 f4 e3 hyv
    go_upto_region 6 with (fail)
    refine rgQ [0,1] [] EX30 rfl fun hw=>?_
    refine qo rfl hw ?_
    refine qv rfl (fun u hu=>ltZ_op u C6.out rfl rfl) hw ?_
    refine enP fun u34 EX33=>?_
    go_upto_region 8 with (fail)
    refine rgQ [0,1,2,3,4,5,6,7,8] [] EX33 rfl fun hw=>?_
    refine qw 3 hw ?_
    refine qv rfl (fun u hu=>idxSl_op underlying39 aggCo.size HKL.out u rfl rfl) hw ?_
    refine qv (v:= .pointer (some (((⟨g,0,none⟩:Addr).add (k*35)).add 33))) rfl (fun u hu=>fieldCo_op (k:=1) (off:=33) rfl u rfl) hw ?_
    refine qv (v:= .pointer (some ((((⟨g,0,none⟩:Addr).add (k*35)).add 33).add 0))) rfl (fun u hu=>fieldOut_op (k:=0) (off:=0) rfl u rfl) hw ?_
    refine qv (v:= .int .i64 yv) rfl (fun u hu=>load_any_op u (by have h:=HLV.out u (EnvX.sub hu (fun y hy=>mT hy));rwa[show ((((⟨g,0,none⟩:Addr).add (k*35)).add 33).add 0)=((⟨g,0,none⟩:Addr).add (k*35)).add 33 by unfold Addr.add;rfl]) rfl) hw ?_
    refine qv rfl (fun u hu=>addZ_op u HADD.out rfl rfl) hw ?_
    refine qo rfl hw ?_
    refine enP fun u37 EX36=>?_
    go_upto_region 9 with (fail)
    refine rgQ [0,1,2,3] [4,5] EX36 rfl fun hw=>?_
    refine qw 3 hw ?_
    refine qv rfl (fun u hu=>addZ_op u HPI.out rfl rfl) hw ?_
    refine wpG_nil<|(hOp_turn (gd:=none) (R:=GrownR w 137 35 q ((l.take k++l.drop (k+1)).map coC).flatten [(gx,oc (inA x) 133)]) rfl rfl rfl rfl (fun u hu=>OUpon_call (fid:=236) (xs:= #[.tmp 33, .tmp 34, .tmp 36]) (args:= #[.slice (some ⟨g,0,none⟩) (q+1) cap, .int .i64 (k:Int), .int .i64 ((k+1:Nat):Int)]) rfl func236 rfl rfl u (HDL.out u _ (EnvX.sub hu (fun y hy=>(List.mem_cons.1 hy).elim (fun h=>by rw[h];exact mT mH) (fun h=>by rw[mS.1 h];exact mH))) (fun y hy=>by cases mS.1 hy;exact Ne.symm (HG6.out.2 (g,_) mH)))) ?_)
    rintro x9 M' ⟨N9,rfl,hF9,hn9⟩ he39;intro K' hK';go_big_quiet_op;go_big_quiet_on
    have HF9:=hD hF9
    have HN9:=hD hn9
    clear hF9 hn9
    refine phE [5] [] he39 fun hw=>?_
    refine qo rfl hw ?_
    refine enP fun u42 EX41=>?_
    have HNX:Hid (takeP p (xs.take (i+1))=some ((l.take k++l.drop (k+1)),m+yv)∧ ∃N,FreshR 137 35 (l.take k++l.drop (k+1)).length ((l.take k++l.drop (k+1)).map coC).flatten x9 N∧freshN w N []∧EnvX w u42 (N++[])):=by
      rw[HYV.out]at HST
      refine⟨HST.out,N9,?_,fun y hy=>⟨(HN9.out y hy).1,fun z hz=>by cases hz⟩,EnvX.sub EX41.out (fun y hy=>?_)⟩
      · rw[HQL.out];exact HF9.out
      · rw[List.append_nil]at hy
        exact mL hy
    have hii:=HI.out
    have hn:=HN1.out
    go_wp2
    go_roundw
    case rel=>exact⟨i+1,l.take k++l.drop (k+1),m+yv,by omega,by go_num,rfl,HNX⟩
    case measure=>simp[intOf];omega
  · obtain rfl:i=n1:=by omega
    have C3:Hid (decide ((i:Int)<(i:Int))=false):=decide_eq_false (by omega)
    have HT:Hid (takeP p xs=some (l,m)):=by
      have h:=HTK.out
      rwa[tL (by rw[HL1.out];exact Nat.le_refl _)]at h
    go_upto_region 3 with (fail)
    refine rgQ [0] [] EK rfl fun hw=>?_
    refine qv rfl (fun u hu=>ltZ_op u C3.out rfl rfl) hw ?_
    refine enP fun u303 EX302=>?_
    go_upto_region 11 with (fail)
    refine rgQ [0,1,2,3,4] [] EX302 rfl fun hw=>?_
    refine qw 5 hw ?_
    refine enP fun u306 EX305=>?_
    have HBE:=hD (EnvX.bel EX305.out)
    have HOW:=hD (HF.out.own (w:=u306) (B:=w.heap.size) (flat35 HTB.out.1.lens) (fun y hy=>⟨(HFR.out y hy).1,EnvX.box EX305.out _ _ (mL hy)⟩))
    go_wp2
    go_returns
    exact⟨WoE.mk _ m true (by unfold WoR;rw[HT.out];exact⟨HOW.out,rfl,rfl⟩),HBE.out⟩
theorem wpList_appzero_run{P:Program}{ops:Array Oper}{rest:List Oper}{o:Oper}{a:Act}{w w':World}{Q:Exit→Act→World→Prop}{v y v':Value}{t tn:TypeId}(hgd:o.guard=none)(s x:Operand)
  (ho:o.op= .call {callee:= .builtin .append,args:= #[s,x],argTypes:= #[t,tn]}) (hs:a.eval s=v) (hx:a.eval x=y)
  (hrun: ∀ty,(Builtin.append_ #[t,tn] ty #[v,y]).run P w= .ok v' w') (h:wpList P ops Q rest (a.put o.dst v') w'):wpList P ops Q (o::rest) a w:=
 wpList_plain hgd fun _ hK=>by
  unfold Oper.wp execOp
  simp only[ho,resolve,invoke,builtin,Sem.run_bind,Sem.run_pure,Result.andThen_ok,List.map_toArray,List.map_cons,List.map_nil,hs,hx,hrun]
  exact hK _ _ h
theorem grow_any(n:Nat)(w:World)(h0:0<n)(hn:n≤1000000):
  Calls Tryz.prog 171 #[.slice none 0 0, .int .i64 (n:Int)] w fun e w'=>(∃v,e= .returned v∧OwnB w' w.heap.size v [])∧Below w.heap.size w w':=by
 have hT:=elB.info
 cases hq:Tryz.prog.info? 5 with
 |none=>rw[hq]at hT;cases hT
 |some i=>
  rw[hq]at hT
  simp only[Option.map_some,Option.some.injEq,Prod.mk.injEq]at hT
  obtain⟨k1,k2,k3⟩:=hT
  have hrz:Hid (∀ty,(Builtin.append_ #[100,3] ty #[.slice none 0 0, .int .i64 (n:Int)]).run Tryz.prog w=_):=fun ty=>Lib.run_append_nil_zeros w 100 3 ty 5 i _ .i64 .i64 underlying100 underlying3 hq k1 n h0 (by omega) (by omega) (by rw[k3];omega)
  have hG:=grownCap_ge w n 0 5
  have hG2:=grownCap_le_maxLen w n 0 5 (by unfold maxLen;omega)
  obtain⟨G,hGe⟩: ∃G,G=grownCap w n 0 5:=⟨_,rfl⟩
  rw[←hGe]at hrz hG hG2
  have hcs:(Builtin.zeroCells (Value.int .u8 0).cells n++Builtin.zeroCells (Value.int .u8 0).cells (G- n)).size=G:=by
    simp[Builtin.zeroCells,Value.cells]
    omega
  generalize Builtin.zeroCells (Value.int .u8 0).cells n++Builtin.zeroCells (Value.int .u8 0).cells (G- n)=cur at *
  have h1: ¬((n:Int)<0):=by omega
  have h2:wrap64 ((n:Int))=(n:Int):=by unfold wrap64;omega
  have h4:(n:Int)>0:=by omega
  have h5:0<(n:Int):=by omega
  have hG63:G≤9223372036854775807:=by unfold maxLen at hG2;omega
  have HC:=hD hcs
  have HG:=hD (And.intro hG hG2)
  clear hcs hG hG2 hGe k1 k2 k3 hq
  go_enter func171,ntmps171
  go_wp2_with (at_builtin;(with_reducible refine wpList_appzero_run (o:=⟨some 22,_,_,_,_,_⟩) ?_ (.tmp 20) (.tmp 21) ?_ ?_ ?_ hrz.out ?_);(rfl);(rfl);(rfl);(rfl))
  all_goals (go_ret;skip)
  refine⟨⟨_,rfl,?_⟩,?_⟩
  · refine⟨rfl, .inr ⟨w.heap.size,G,cur,rfl,Nat.le_refl _,?_,Nat.zero_le _,HG.out.2,by rw[HC.out];omega,by simp⟩⟩
    exact heap_alloc_new w.drew _
  · exact((Below.refl _ w).drew).alloc (Nat.le_refl _) _
theorem flat_take_le(xss:List (List Int))(k:Nat):(xss.take k).flatten.length≤xss.flatten.length:=by
 conv=>rhs;rw[←List.take_append_drop k xss,List.flatten_append,lA]
 omega
/-- bytes that are put one behind the other -/
theorem concat_any(A:Option Addr)(n c:Nat)(xss:List (List Int))(w:World)(hl:xss.length=n)(hx:Parts w w.heap.size A xss)(hn:n≤1000000)(hp:0<xss.flatten.length)(hs:xss.flatten.length≤1000000):
  Calls Tryz.prog 112 #[.slice A n c] w fun e w'=>(∃v,e= .returned v∧OwnB w' w.heap.size v xss.flatten)∧Below w.heap.size w w':=by
 have HL:=hD hl
 have HX:=hD hx
 have HP:=hD hp
 have HS:=hD hs
 clear hl hx hp hs
 go_enter func112,ntmps112
 go_wp2_with fail
 go_loopw [3,11] (fun v i u=> ∃k:Nat,k≤n∧i= .int .i64 (k:Int)∧v= .int .i64 ((xss.take k).flatten.length:Int)∧u=w) (fun _ i _=>n- (intOf i).toNat)
 case atStart=>exact⟨0,by omega,rfl,rfl,rfl⟩
 case round=>
  obtain⟨k,hk,rfl,rfl,hU⟩:=hrel
  obtain rfl:=hU.symm
  by_cases hlt:k<n
  · have hg:=gE (by rw[HL.out];exact hlt:k<xss.length)
    have hst:=congrArg List.length (flat_step xss k _ hg)
    rw[lA]at hst
    obtain⟨b,o,a,c1,rfl,hb,hc,hy,hr⟩:=HX.out k _ hg
    have hle:=flat_take_le xss (k+1)
    have h6:=HS.out
    generalize xss[k]'(by rw[HL.out];exact hlt)=ys at *
    have HST:=hD hst
    generalize (xss.take k).flatten.length=p1 at *
    generalize ys.length=m at *
    have hadd:wrap64 ((p1:Int)+(m:Int))=(p1:Int)+(m:Int):=by unfold wrap64;omega
    have hneg: ¬((p1:Int)+(m:Int)<0):=by omega
    have hk2:(k:Int)<(n:Int):=by omega
    clear hg hy hr hle h6 hst
    go_wp2
    go_roundw
    case rel=>exact⟨k+1,by omega,by go_num,by rw[HST.out,hadd,Int.natCast_add],trivial⟩
    case measure=>simp[intOf];omega
  · obtain rfl:k=n:=by omega
    have hT:xss.take k=xss:=tL (by rw[HL.out];exact Nat.le_refl _)
    rw[hT]
    obtain⟨q,hq⟩: ∃q,xss.flatten.length=q:=⟨_,rfl⟩
    have hq1:=HP.out
    have hq2:=HS.out
    rw[hq]at hq1 hq2 ⊢
    have HQ:=hD hq
    clear hq hT
    go_wp2_with fail
    refine(grow_any q w hq1 hq2).mono ?_
    rintro e w2 ⟨⟨v2,rfl,hv2⟩,hb2⟩
    have HO:=hD hv2
    have HB:=hD hb2
    clear hv2 hb2
    go_wp2_with fail
    go_loopw [6,27] (fun v i u=> ∃j:Nat,j≤k∧i= .int .i64 (j:Int)∧Hid (OwnB u w.heap.size v (xss.take j).flatten∧Below w.heap.size w u)) (fun _ i _=>k- (intOf i).toNat)
    case atStart=>exact⟨0,by omega,rfl,HO.out,HB.out⟩
    case round=>
     obtain⟨j,hj,rfl,hinv⟩:=hrel
     obtain⟨hO,hB⟩:=hinv.out
     clear hinv
     by_cases hjt:j<k
     · have hg:=gE (by rw[HL.out];exact hjt:j<xss.length)
       have hst:=hD (flat_step xss j _ hg)
       obtain⟨b,o,a,c1,rfl,hb,hc,hy,hr⟩:=HX.out j _ hg
       have hle:=flat_take_le xss (j+1)
       rw[hst.out,lA]at hle
       have h6:=HS.out
       generalize xss[j]'(by rw[HL.out];exact hjt)=ys at *
       obtain⟨v',w',hrun,hown',hb2⟩:=hO.append (c:=c1) rfl (hy.below hB) (by omega) hB.size
       have hcell:=(hB.cell (p:=⟨b,o+j,none⟩) hb).trans hc
       have HN:Hid (OwnB w' w.heap.size v' (xss.take (j+1)).flatten∧Below w.heap.size w w'):=⟨by rw[hst.out];exact hown',hB.trans hb2⟩
       have HRUN:=hD hrun
       have hj2:(j:Int)<(k:Int):=by omega
       clear hg hc hy hr hrun hown' hb2 hle h6 hO hB hst
       generalize ys.length=m at *
       go_wp2_with (at_builtin;(with_reducible refine wpList_append_run (o:=⟨some 33,_,_,_,_,_⟩) ?_ (.tmp 31) (.tmp 32) ?_ ?_ ?_ ?_ HRUN.out ?_);(rfl);(rfl);(rfl);(rfl);(rfl))
       go_roundw
       case rel=>exact⟨j+1,by omega,by go_num,HN⟩
       case measure=>simp[intOf];omega
     · obtain rfl:j=k:=by omega
       have hge: ¬(j:Int)<(j:Int):=by omega
       have hT:xss.take j=xss:=tL (by rw[HL.out];exact Nat.le_refl _)
       rw[hT]at hO
       have HO2:=hD hO
       have HB2:=hD hB
       clear hO hB hT
       go_wp2
       go_ret
       exact⟨⟨_,rfl,HO2.out⟩,HB2.out⟩
theorem bytes_src{u:World}{B g k:Nat}{xs:List Int}(hg:g<B)(h:SrcAt u ⟨g,k,none⟩ (xs.map u8v)):Bytes u B (some ⟨g,k,none⟩) xs:=fun _=>⟨_,rfl,hg,h⟩
def PartsAt(w:World)(B g k:Nat)(xss:List (List Int)):Prop:= ∀(j:Nat)(xs:List Int),xss[j]?=some xs→ ∃(a:Option Addr)(c:Nat),w.cell? ⟨g,k+j,none⟩=some (.slice a xs.length c)∧Bytes w B a xs∧ ∀x∈xs,0≤x∧x≤255
theorem PartsAt.nil{w:World}{B g k:Nat}:PartsAt w B g k []:=fun j xs h=>by simp at h
theorem PartsAt.cons{w:World}{B g k n c:Nat}{a:Option Addr}{xs:List Int}{xss:List (List Int)}(hc:w.cell? ⟨g,k,none⟩=some (.slice a n c))(hn:xs.length=n)(hx:Bytes w B a xs)(hr: ∀x∈xs,0≤x∧x≤255)(h:PartsAt w B g (k+1) xss):PartsAt w B g k (xs::xss):=by
 subst hn
 intro j ys hj
 cases j with
 |zero=>
  obtain rfl:xs=ys:=by simpa using hj
  exact⟨a,c,hc,hx,hr⟩
 |succ j=>
  obtain⟨a',c',h1,h2,h3⟩:=h j ys (by simpa using hj)
  exact⟨a',c',by rw[show k+(j+1)=k+1+j by omega];exact h1,h2,h3⟩
theorem parts_of_at{w:World}{B g:Nat}{xss:List (List Int)}(hg:g<B)(h:PartsAt w B g 0 xss):Parts w B (some ⟨g,0,none⟩) xss:=by
 intro k xs hk
 obtain⟨a,c,h1,h2,h3⟩:=h k xs hk
 exact⟨g,0,a,c,rfl,hg,h1,h2,h3⟩
def OwnCo(w:World)(B:Nat)(v:Value)(l:List CoinR):Prop:=w.ownsRow B 137 35 v l.length (l.map coC).flatten
def PartsC(w:World)(B:Nat)(A:Option Addr)(pss:List (List CoinR)):Prop:= ∀(k:Nat)(ps:List CoinR),pss[k]?=some ps→ ∃b o a c,A=some ⟨b,o,none⟩∧b<B∧w.cell? ⟨b,o+k,none⟩=some (.slice a ps.length c)∧CoinsIn w B a ps∧okP ps
theorem flat_stepC{α:Type}(xss:List (List α))(k:Nat)(xs:List α)(h:xss[k]?=some xs):(xss.take (k+1)).flatten=(xss.take k).flatten++xs:=by
 rw[List.take_add_one,h]
 simp
theorem flat_take_leC{α:Type}(xss:List (List α))(k:Nat):(xss.take k).flatten.length≤xss.flatten.length:=by
 conv=>rhs;rw[←List.take_append_drop k xss,List.flatten_append,lA]
 omega
theorem OwnCo.append{w:World}{B B' c:Nat}{v:Value}{l ps:List CoinR}{a:Option Addr}(h:OwnCo w B v l)(hy:CoinsIn w B' a ps)(hok:okP ps)(hs:l.length+ps.length≤2000000)(hB:B≤w.heap.size):
  ∃v' w',(∀ty,(Builtin.append_ #[39,39] ty #[v, .slice a ps.length c]).run Tryz.prog w= .ok v' w')∧OwnCo w' B v' (l++ps)∧Below B w w':=by
 unfold OwnCo at *
 have hfl:(ps.map coC).flatten.length=ps.length*35:=flat35 hok.lens
 cases a with
 | none=>
  have h0:ps=[]:=by
   refine List.eq_nil_of_length_eq_zero (Nat.eq_zero_of_not_pos fun hp=>?_)
   obtain⟨ad,e,_⟩:=hy (by rw[hfl];omega)
   cases e
  subst h0
  obtain⟨A1,c1,rfl,k1,k2⟩:=ownR_form h
  cases hi:Tryz.prog.info? 137 with
  |none=>have:=elCo.info;rw[hi]at this;cases this
  |some i=>
   have hrun: ∀ty,(Builtin.append_ #[39,39] ty #[.slice A1 l.length c1, .slice none 0 c]).run Tryz.prog w= .ok (.slice A1 l.length c1) w:=fun ty=>by
     cases A1<;>simp[Builtin.append_,run_underlying elCo.und,sizeOf,typeInfo,hi,Builtin.lenOf,Builtin.firstCells,k1,storeCells]
   refine⟨_,w,hrun,?_,Below.refl _ _⟩
   rw[List.append_nil]
   exact h
 | some ad=>
  have hc: ∀j u,((ps.map coC).flatten)[j]?=some u→w.cell? (ad.add j)=some u:=fun j u hu=>by
   obtain⟨ad',e,_,hcc⟩:=hy (by
     rcases Nat.eq_zero_or_pos ((ps.map coC).flatten).length with h0|h0
     · rw[List.eq_nil_of_length_eq_zero h0]at hu;simp at hu
     · exact h0)
   obtain rfl:=Option.some.inj e
   exact hcc j u hu
  cases hq:Tryz.prog.info? 137 with
  |none=>have:=elCo.info;rw[hq]at this;cases this
  |some i=>
   have hi:=elCo.info
   rw[hq]at hi
   simp only[Option.map_some,Option.some.injEq,Prod.mk.injEq]at hi
   obtain⟨k1,k2,k3⟩:=hi
   obtain⟨v',w',hrun,hown',hg,_,ho⟩:=run_append_own_at (P:=Tryz.prog) w B 39 39 137 i (coV noC0) 35 56 elCo.und hq k1 k2 k3 elCo.zs elCo.pos v l.length _ h ad ps.length c _ hfl hc (coins_one ps) (by unfold maxLen;omega) (by omega) hB
   refine⟨v',w',fun ty=>?_,?_,below_of_grown hg (fun r hr=>(h.lt r hr).1) hB⟩
   · exact hrun
   · rw[lA,List.map_append,List.flatten_append]
     exact hown'
theorem growC_any(n:Nat)(w:World)(h0:0<n)(hn:n≤1000000):
  Calls Tryz.prog 239 #[.slice none 0 0, .int .i64 (n:Int)] w fun e w'=>(∃v,e= .returned v∧OwnCo w' w.heap.size v [])∧Below w.heap.size w w':=by
 have hT:=elCo.info
 cases hq:Tryz.prog.info? 137 with
 |none=>rw[hq]at hT;cases hT
 |some i=>
  rw[hq]at hT
  simp only[Option.map_some,Option.some.injEq,Prod.mk.injEq]at hT
  obtain⟨k1,k2,k3⟩:=hT
  have hrz:Hid (∀ty,(Builtin.append_ #[39,3] ty #[.slice none 0 0, .int .i64 (n:Int)]).run Tryz.prog w=_):=fun ty=>Lib.run_append_nil_zeros w 39 3 ty 137 i _ .i64 .i64 underlying39 underlying3 hq k1 n h0 (by omega) (by omega) (by rw[k3];omega)
  have hG:=grownCap_ge w n 0 137
  have hG2:=grownCap_le_maxLen w n 0 137 (by unfold maxLen;omega)
  obtain⟨G,hGe⟩: ∃G,G=grownCap w n 0 137:=⟨_,rfl⟩
  rw[←hGe]at hrz hG hG2
  have hcs:(Builtin.zeroCells (coV noC0).cells n++Builtin.zeroCells (coV noC0).cells (G- n)).size=G*35:=by
    have hz:=elCo.zs
    rw[Array.size_append]
    simp only[Builtin.zeroCells,Array.size_map,Array.size_range,hz]
    omega
  generalize Builtin.zeroCells (coV noC0).cells n++Builtin.zeroCells (coV noC0).cells (G- n)=cur at *
  have h1: ¬((n:Int)<0):=by omega
  have h2:wrap64 ((n:Int))=(n:Int):=by unfold wrap64;omega
  have h4:(n:Int)>0:=by omega
  have h5:0<(n:Int):=by omega
  have hG63:G≤9223372036854775807:=by unfold maxLen at hG2;omega
  have HC:=hD hcs
  have HG:=hD (And.intro hG hG2)
  clear hcs hG hG2 hGe k1 k2 k3 hq
  go_enter func239,ntmps239
  go_wp2_with (at_builtin;(with_reducible refine wpList_appzero_run (o:=⟨some 22,_,_,_,_,_⟩) ?_ (.tmp 20) (.tmp 21) ?_ ?_ ?_ hrz.out ?_);(rfl);(rfl);(rfl);(rfl))
  all_goals (go_ret;skip)
  refine⟨⟨_,rfl,?_⟩,?_⟩
  · refine⟨rfl, .inr ⟨w.heap.size,G,cur,rfl,Nat.le_refl _,?_,Nat.zero_le _,HG.out.2,HC.out,by simp⟩⟩
    exact heap_alloc_new w.drew _
  · exact((Below.refl _ w).drew).alloc (Nat.le_refl _) _
/-- bytes that are put one behind the other -/
theorem concatC_any(A:Option Addr)(n c:Nat)(xss:List (List CoinR))(w:World)(hl:xss.length=n)(hx:PartsC w w.heap.size A xss)(hn:n≤1000000)(hp:0<xss.flatten.length)(hs:xss.flatten.length≤1000000):
  Calls Tryz.prog 231 #[.slice A n c] w fun e w'=>(∃v,e= .returned v∧OwnCo w' w.heap.size v xss.flatten)∧Below w.heap.size w w':=by
 have HL:=hD hl
 have HX:=hD hx
 have HP:=hD hp
 have HS:=hD hs
 clear hl hx hp hs
 go_enter func231,ntmps231
 go_wp2_with fail
 go_loopw [3,11] (fun v i u=> ∃k:Nat,k≤n∧i= .int .i64 (k:Int)∧v= .int .i64 ((xss.take k).flatten.length:Int)∧u=w) (fun _ i _=>n- (intOf i).toNat)
 case atStart=>exact⟨0,by omega,rfl,rfl,rfl⟩
 case round=>
  obtain⟨k,hk,rfl,rfl,hU⟩:=hrel
  obtain rfl:=hU.symm
  by_cases hlt:k<n
  · have hg:=gE (by rw[HL.out];exact hlt:k<xss.length)
    have hst:=congrArg List.length (flat_stepC xss k _ hg)
    rw[lA]at hst
    obtain⟨b,o,a,c1,rfl,hb,hc,hy,hr⟩:=HX.out k _ hg
    have hle:=flat_take_leC xss (k+1)
    have h6:=HS.out
    generalize xss[k]'(by rw[HL.out];exact hlt)=ys at *
    have HST:=hD hst
    generalize (xss.take k).flatten.length=p1 at *
    generalize ys.length=m at *
    have hadd:wrap64 ((p1:Int)+(m:Int))=(p1:Int)+(m:Int):=by unfold wrap64;omega
    have hneg: ¬((p1:Int)+(m:Int)<0):=by omega
    have hk2:(k:Int)<(n:Int):=by omega
    clear hg hy hr hle h6 hst
    go_wp2
    go_roundw
    case rel=>exact⟨k+1,by omega,by go_num,by rw[HST.out,hadd,Int.natCast_add],trivial⟩
    case measure=>simp[intOf];omega
  · obtain rfl:k=n:=by omega
    have hT:xss.take k=xss:=tL (by rw[HL.out];exact Nat.le_refl _)
    rw[hT]
    obtain⟨q,hq⟩: ∃q,xss.flatten.length=q:=⟨_,rfl⟩
    have hq1:=HP.out
    have hq2:=HS.out
    rw[hq]at hq1 hq2 ⊢
    have HQ:=hD hq
    clear hq hT
    go_wp2_with fail
    refine(growC_any q w hq1 hq2).mono ?_
    rintro e w2 ⟨⟨v2,rfl,hv2⟩,hb2⟩
    have HO:=hD hv2
    have HB:=hD hb2
    clear hv2 hb2
    go_wp2_with fail
    go_loopw [6,27] (fun v i u=> ∃j:Nat,j≤k∧i= .int .i64 (j:Int)∧Hid (OwnCo u w.heap.size v (xss.take j).flatten∧Below w.heap.size w u)) (fun _ i _=>k- (intOf i).toNat)
    case atStart=>exact⟨0,by omega,rfl,HO.out,HB.out⟩
    case round=>
     obtain⟨j,hj,rfl,hinv⟩:=hrel
     obtain⟨hO,hB⟩:=hinv.out
     clear hinv
     by_cases hjt:j<k
     · have hg:=gE (by rw[HL.out];exact hjt:j<xss.length)
       have hst:=hD (flat_stepC xss j _ hg)
       obtain⟨b,o,a,c1,rfl,hb,hc,hy,hr⟩:=HX.out j _ hg
       have hle:=flat_take_leC xss (j+1)
       rw[hst.out,lA]at hle
       have h6:=HS.out
       generalize xss[j]'(by rw[HL.out];exact hjt)=ys at *
       obtain⟨v',w',hrun,hown',hb2⟩:=OwnCo.append (c:=c1) hO (CellsIn.below hy hB) hr (by omega) hB.size
       have hcell:=(hB.cell (p:=⟨b,o+j,none⟩) hb).trans hc
       have HN:Hid (OwnCo w' w.heap.size v' (xss.take (j+1)).flatten∧Below w.heap.size w w'):=⟨by rw[hst.out];exact hown',hB.trans hb2⟩
       have HRUN:=hD hrun
       have hj2:(j:Int)<(k:Int):=by omega
       clear hg hc hy hr hrun hown' hb2 hle h6 hO hB hst
       generalize ys.length=m at *
       go_wp2_with (at_builtin;(with_reducible refine Lib.wpList_append_run _ (o:=⟨some 33,_,_,_,_,_⟩) ?_ (.tmp 31) (.tmp 32) 39 39 ?_ _ _ ?_ ?_ _ _ (HRUN.out _) ?_);(rfl);(rfl);(rfl);(rfl))
       go_roundw
       case rel=>exact⟨j+1,by omega,by go_num,HN⟩
       case measure=>simp[intOf];omega
     · obtain rfl:j=k:=by omega
       have hge: ¬(j:Int)<(j:Int):=by omega
       have hT:xss.take j=xss:=tL (by rw[HL.out];exact Nat.le_refl _)
       rw[hT]at hO
       have HO2:=hD hO
       have HB2:=hD hB
       clear hO hB hT
       go_wp2
       go_ret
       exact⟨⟨_,rfl,HO2.out⟩,HB2.out⟩
section
variable {st e:TypeId}{bytes:Nat}{zero:Value}
theorem run_buildR3(T:ElemT st e 1 bytes zero)(x y z:Value)(hx:x.cells= #[x])(hy:y.cells= #[y])(hz:z.cells= #[z])(u:World):(Instr.buildSlice st 3 #[(0,x),(1,y),(2,z)]).run Tryz.prog u= .ok (.slice (some ⟨u.heap.size,0,none⟩) 3 3) (u.alloc (.cells #[x,y,z] e)):=by
 cases hq:Tryz.prog.info? e with
 |none=>have:=T.info;rw[hq]at this;cases this
 | some i=>
  have hi:=T.info
  rw[hq]at hi
  simp only[Option.map_some,Option.some.injEq,Prod.mk.injEq]at hi
  obtain⟨k1,k2,k3⟩:=hi
  have hsm:=T.small
  have hpz:=T.pos
  refine run_buildSlice u st e 3 _ #[x,y,z] i zero T.und hq k1 (by omega) (by omega) ?_
  rw[k2]
  have hf:=Great.fill_whole (s:=1) T.pos [x,y,z] ((Array.range (3*1)).map (zero.cells[· % zero.cells.size]!)) (by
   intro v hv
   simp only[List.mem_cons,List.not_mem_nil,or_false]at hv
   rcases hv with rfl|rfl|rfl
   · rw[hx];rfl
   · rw[hy];rfl
   · rw[hz];rfl) (by simp)
  simpa [hx,hy,hz] using hf
def BuiltS3(e:TypeId)(x y z:Value)(v:Value)(N:Boxes):Prop:= ∃g,v= .slice (some ⟨g,0,none⟩) 3 3∧N=[(g,oc #[x,y,z] e)]
theorem FAt_buildS3(T:ElemT st e 1 bytes zero){x y z:Value}(hx:x.cells= #[x])(hy:y.cells= #[y])(hz:z.cells= #[z]){a:Act}{dst:Option Tmp}{p q r:Operand}{ty:TypeId}{pos:String}{after:Array Edge}{gd:Option (Nat × Bool)}(hp:a.eval p=x)(hq:a.eval q=y)(hr:a.eval r=z)(u:World):
  FAt Tryz.prog ⟨dst, .buildSlice st 3 #[(0,p),(1,q),(2,r)],ty,pos,after,gd⟩ a (BuiltS3 e x y z) u:=by
 unfold FAt execOp
 simp only[List.map_toArray,List.map_cons,List.map_nil,hp,hq,hr,Sem.run_bind,Sem.run_pure,run_buildR3 T x y z hx hy hz u,Result.andThen_ok]
 refine⟨(Below.refl _ _).alloc (Nat.le_refl _) _,_,⟨_,rfl,rfl⟩,fun y hy=>?_⟩
 cases mS.1 hy
 exact⟨Nat.le_refl _,heap_alloc_new u _⟩
end
theorem elSls:ElemT 242 39 1 24 (.slice none 0 0):=⟨underlying242,by kernel_rfl,by decide+kernel,by decide,by decide,by decide⟩
theorem partsC3{w:World}{g n1 n2 n3 c1 c2 c3:Nat}{a1 a2 a3:Option Addr}{p1 p2 p3:List CoinR}(hg:w.heap[g]?=some (.cells #[.slice a1 n1 c1, .slice a2 n2 c2, .slice a3 n3 c3] 39 (0,0)))
  (l1:p1.length=n1) (l2:p2.length=n2) (l3:p3.length=n3) (h1:CoinsIn w w.heap.size a1 p1) (h2:CoinsIn w w.heap.size a2 p2) (h3:CoinsIn w w.heap.size a3 p3) (o1:okP p1) (o2:okP p2) (o3:okP p3):PartsC w w.heap.size (some ⟨g,0,none⟩) [p1,p2,p3]:=by
 subst l1 l2 l3
 have hlt:=Row.lt (t:=39) hg
 intro k ps hk
 match k,hk with
 |0,hk=>cases hk;exact⟨g,0,a1,c1,rfl,hlt,cell_of_row w g 0 _ _ _ hg,h1,o1⟩
 |1,hk=>cases hk;exact⟨g,0,a2,c2,rfl,hlt,cell_of_row w g 1 _ _ _ hg,h2,o2⟩
 |2,hk=>cases hk;exact⟨g,0,a3,c3,rfl,hlt,cell_of_row w g 2 _ _ _ hg,h3,o3⟩
 |k+3,hk=>simp at hk
theorem pwith_any(p:List CoinR)(A:Option Addr)(n c:Nat)(id:List Int)(os:List OutR)(A2:Option Addr)(n2 c2:Nat)(w:World)(hl:p.length=n)(hn:n≤1000)(hnc:n≤c)(hcm:c≤maxLen)(hI:okP p)(hup:upP p)(hA:CoinsIn w w.heap.size A p)(hid:isId id)(hth:thereP p id=false)(hl2:os.length=n2)(h2:n2≤1000)(h20:0<n2)(ho:okOuts os)(hA2:OutsIn w w.heap.size A2 os):
  Calls Tryz.prog 215 #[.slice A n c,idv id, .slice A2 n2 c2] w fun e w'=>(∃v,e= .returned v∧w'.ownsRow w.heap.size 137 35 v (madeP p (newC id 0 os)).length ((madeP p (newC id 0 os)).map coC).flatten)∧Below w.heap.size w w':=by
 have HMP:=hD (made_place hI.id hid hup hth os)
 have hkn:=placeP_le p ⟨id,0⟩
 have HL:=hD hl
 have HPP:=hD hI
 have HAA:=hD hA
 have HN63:Hid (n<9223372036854775808):=by show _<_;unfold maxLen at hcm;omega
 have HNC:=hD (And.intro hnc hcm)
 have HN1:Hid (n≤1000):=hn
 have HID:=hD hid
 have HIL:Hid (id.length=32):=hid.1
 have HL2:=hD hl2
 have HN2:Hid (n2≤1000):=h2
 have HN20:Hid (0<n2):=h20
 have HM63:Hid (n2<9223372036854775808):=by show _<_;omega
 have HOO:=hD ho
 have HA2:Hid (OutsIn w w.heap.size A2 os):=hA2
 have HPL:Hid (Rb w 230 #[.slice A n c,inV ⟨id,0⟩] (.int .i64 (placeP p ⟨id,0⟩:Int))):=fun u hu=>pplace_any p A n c ⟨id,0⟩ u hl (by omega) hI hup (CellsIn.up hA hu) ⟨hid,show I64 0 by unfold I64;omega⟩
 have E1:Hid (EnvX w (w.alloc (.cells (arrB 32 id) 26)) [(w.heap.size,oc (arrB 32 id) 26)]):=(EnvX.start w).new _
 obtain⟨at',hat⟩: ∃k,placeP p ⟨id,0⟩=k:=⟨_,rfl⟩
 rw[hat]at HPL HMP hkn
 rw[hl]at hkn
 have HAT:Hid (at'≤n):=hkn
 clear hl hn hnc hcm hI hup hA hid hth hl2 h2 h20 ho hA2 hkn hat
 unfold idv
 go_enter func215,ntmps215
 go_upto_region 1 with (fail)
 generalize w.alloc (.cells (arrB 32 id) 26)=W at *
 refine rgQ [0,1] [2,3] E1 rfl fun hw=>?_
 refine qo rfl hw ?_
 refine qv rfl (fun u hu=>len_op underlying75 HM63.out u rfl) hw ?_
 refine wpG_nil<|(hOp_fresh (R:=fun v N=> ∃g cur,v= .slice (some ⟨g,0,none⟩) 0 n2∧N=[(g,oc cur 137)]∧cur.size=n2*35) (M0:=[(w.heap.size,oc (arrB 32 id) 26)]) rfl rfl (fun _ h=>h) (fun u hu=>FAt_makeR elCo (by have:=HN2.out;omega) rfl u) ?_)
 rintro _ _ ⟨gm,cm,rfl,rfl,hcm⟩ hf he2;intro K' hK';go_big_quiet_op;go_big_quiet_on
 have HCM:=hD hcm
 have HGM:=hD (hf _ (mS.2 rfl))
 clear hcm
 clear hf
 refine phE [3] [] he2 fun hw=>?_
 refine qo rfl hw ?_
 refine enP fun u5 EX4=>?_
 go_upto_region 2 with (fail)
 refine rgQ [0,1,2] [] EX4 rfl fun hw=>?_
 refine qo rfl hw ?_
 refine qv rfl (fun u hu=>len_op underlying75 HM63.out u rfl) hw ?_
 refine qo rfl hw ?_
 refine enP fun u8 EX7=>?_
 have HINV:Hid (∃N,FreshR 137 35 0 ((newC id 0 (os.take 0)).map coC).flatten (.slice (some ⟨gm,0,none⟩) 0 n2) N∧freshN w N [(w.heap.size,oc (arrB 32 id) 26)]∧EnvX w u8 (N++[(w.heap.size,oc (arrB 32 id) 26)])):=⟨[(gm,oc cm 137)], .inl ⟨gm,n2,cm,rfl,rfl,Nat.zero_le _,by have:=HN2.out;unfold maxLen;omega,HCM.out,by simp[newC]⟩,(fun y hy=>by cases mS.1 hy;exact HGM.out),EX7.out⟩
 clear EX7 E1 HCM HGM
 go_upto_region 3 with (fail)
 go_loopw [7,16] (fun v iv u=> ∃i:Nat,i≤n2∧iv= .int .i64 (i:Int)∧Hid (∃N,FreshR 137 35 i ((newC id 0 (os.take i)).map coC).flatten v N∧freshN w N [(w.heap.size,oc (arrB 32 id) 26)]∧EnvX w u (N++[(w.heap.size,oc (arrB 32 id) 26)]))) (fun _ iv _=>n2- (intOf iv).toNat)
 case atStart=>exact⟨0,by omega,rfl,HINV⟩
 case round=>
  obtain⟨i,hi,rfl,hinv⟩:=hrel
  obtain⟨N,hF,hfr,hE⟩:=hinv.out
  have EK:=hD hE
  have HF:=hD hF
  have HFR:=hD hfr
  clear hinv HINV hE hF hfr
  by_cases hlt:i<n2
  · have C3:Hid (decide ((i:Int)<(n2:Int))=true):=decide_eq_true (by omega)
    have HI:=hD hlt
    have hil:i<os.length:=by rw[HL2.out];exact hlt
    obtain⟨ad,rfl,-,hld⟩:=HA2.out.loads hil
    have HLD:=hD hld
    have hoo:okOut (os.getD i noOut):=HOO.out.get hil
    have hsn:=newC_snoc id (os.take i) 0 (os.getD i noOut)
    rw[←take_snocC noOut hil,List.length_take,Nat.min_eq_left (by omega),Int.zero_add]at hsn
    have hnl:(newC id 0 (os.take i)).length=i:=by rw[newC_len,List.length_take,Nat.min_eq_left (by omega)]
    have hnk:okP (newC id 0 (os.take i)):=newC_ok HID.out (fun o ho=>HOO.out o (List.mem_of_mem_take ho)) (by rw[List.length_take];have:=HN2.out;omega)
    obtain⟨y,hy⟩: ∃y,os.getD i noOut=y:=⟨_,rfl⟩
    rw[hy]at HLD hoo hsn
    have HSN:=hD hsn
    have HCO:Hid (lenC ⟨id,i,y.v,y.tw⟩):=HIL.out
    have HLI:Hid (lenI ⟨id,i⟩):=HIL.out
    have HSL:Hid (((newC id 0 (os.take i)).map coC).flatten.length=i*35):=by show _=_;rw[flat35 hnk.lens,hnl]
    have HXE:Hid (((newC id 0 (os.take (i+1))).map coC).flatten=((newC id 0 (os.take i)).map coC).flatten++coC ⟨id,i,y.v,y.tw⟩):=by
     show _=_
     rw[hsn,List.map_append,List.flatten_append]
     simp
    clear hlt hil hld hoo hsn hnl hnk hy
    generalize ((newC id 0 (os.take i)).map coC).flatten=xs at *
    go_upto_region 3 with (fail)
    refine rgQ [0] [] EK rfl fun hw=>?_
    refine qv rfl (fun u hu=>ltZ_op u C3.out rfl rfl) hw ?_
    refine enP fun u23 EX22=>?_
    go_upto_region 4 with (fail)
    refine rgQ [0,1,2] [3,4,5] EX22 rfl fun hw=>?_
    refine qo rfl hw ?_
    refine qv rfl (fun u hu=>idxSl_op underlying75 aggOut.size HI.out u rfl rfl) hw ?_
    refine qv rfl (fun u hu=>load_any_op u (HLD.out u (nl hu)).1 rfl) hw ?_
    refine wpG_nil<|qn rfl (new_out _) fun go HG6 he25=>?_
    refine phE [4] [5] he25 fun hw=>?_
    refine qo rfl hw ?_
    refine wpG_nil<|(sh rfl HG6 (infoOut _ (outA_size _)) ((outA_size _).trans (outA_size _).symm) (outA_one _) ?_)
    refine fun _=>enL fun u29 EX28=>?_
    go_upto_region 5 with (fail)
    refine rgQ [0,1,2,3,4,5] [6,7,8] EX28 rfl fun hw=>?_
    refine qo rfl hw ?_
    refine qv rfl (fun u hu=>load_any_op u (box_idvP hu (mT (mR mH)) HIL.out) rfl) hw ?_
    refine qo rfl hw ?_
    refine qv (v:=inV ⟨id,i⟩) rfl (fun u hu=>buildA_op u (built_in HIL.out)) hw ?_
    refine ql rfl mH trivial hw ?_
    refine qv (v:= .agg (coC ⟨id,i,y.v,y.tw⟩).toArray) rfl (fun u hu=>buildA_op u (built_co HLI.out)) hw ?_
    refine wpG_nil<|(hOp_fresh (R:=BuiltR 137 (coC ⟨id,i,y.v,y.tw⟩)) (M0:=((go,oc (outA y) 135)::(N++((w.heap.size,oc (arrB 32 id) 26)::[])))) rfl rfl (fun _ h=>h) (fun u hu=>FAt_buildR elCo (coC_len HCO.out) (coC_one _) rfl u) ?_)
    rintro _ _ ⟨g8,rfl,rfl⟩ hf he31;intro K' hK';go_big_quiet_op;go_big_quiet_on
    clear hf
    change lexH _ _ _ _ _ _ ((g8,oc (coC ⟨id,i,y.v,y.tw⟩).toArray 137)::((go,oc (outA y) 135)::(N++((w.heap.size,oc (arrB 32 id) 26)::[]))))
    refine(hOp_own (gd:=none) (R:=GrownR w 137 35 (i+1) (xs++coC ⟨id,i,y.v,y.tw⟩) [(w.heap.size,oc (arrB 32 id) 26)]) rfl rfl rfl rfl (fun u hu=>appR_op elCo (m:=1) (c:=1) [(w.heap.size,oc (arrB 32 id) 26)] hu HSL.out (by rw[Nat.one_mul];exact coC_len HCO.out) (coC_one _) HF.out (fun y hy=>⟨mT (mT (mL hy)),(HFR.out y hy).1⟩) mH (fun z hz=>⟨mT (mT (mR hz)),fun y hy=>(HFR.out y hy).2 z hz⟩) (by have:=HI.out;have:=HN2.out;omega) rfl rfl) ?_)
    rintro x9 M' ⟨N9,rfl,hF9,hn9⟩ he32;intro K' hK';go_big_quiet_op;go_big_quiet_on
    have HF9:=hD hF9
    have HN9:=hD hn9
    clear hF9 hn9
    refine phE [8] [] he32 fun hw=>?_
    refine qo rfl hw ?_
    refine enP fun u35 EX34=>?_
    have HNX:Hid (∃N,FreshR 137 35 (i+1) ((newC id 0 (os.take (i+1))).map coC).flatten x9 N∧freshN w N [(w.heap.size,oc (arrB 32 id) 26)]∧EnvX w u35 (N++[(w.heap.size,oc (arrB 32 id) 26)])):=⟨N9,by rw[HXE.out];exact HF9.out,HN9.out,EX34.out⟩
    have hii:=HI.out
    have hn:=HN2.out
    go_wp2
    go_roundw
    case rel=>exact⟨i+1,by omega,by go_num,HNX⟩
    case measure=>simp[intOf];omega
  · obtain rfl:i=n2:=by omega
    have C3:Hid (decide ((i:Int)<(i:Int))=false):=decide_eq_false (by omega)
    rw[tL (by rw[HL2.out];exact Nat.le_refl _)]at HF
    obtain⟨A3,c3,rfl,hc1,hc2⟩:=FreshR.formC HF.out
    have hnk:okP (newC id 0 os):=newC_ok HID.out (fun o ho=>HOO.out o ho) (by rw[HL2.out];exact HN2.out)
    have hnl:(newC id 0 os).length=i:=by rw[newC_len,HL2.out]
    have HNK:=hD hnk
    have HNL:=hD hnl
    have HLT:Hid ((p.take at').length=at'∧(p.drop at').length=n- at'):=⟨by rw[List.length_take,HL.out];have:=HAT.out;omega,by rw[List.length_drop,HL.out]⟩
    have HFLT:Hid (0<[p.take at',newC id 0 os,p.drop at'].flatten.length∧[p.take at',newC id 0 os,p.drop at'].flatten.length≤1000000):=by
     have h1:=HLT.out.1
     have h2:=HLT.out.2
     have h3:=HN1.out
     have h4:=HN2.out
     have h5:=HN20.out
     have h6:=HAT.out
     have h:[p.take at',newC id 0 os,p.drop at'].flatten.length=at'+(i+(n- at')):=by simp only[List.flatten_cons,List.flatten_nil,lA,List.length_nil,h1,h2,hnl,Nat.add_zero]
     rw[show _=_ from h]
     exact⟨by omega,by omega⟩
    have HEQ:Hid ([p.take at',newC id 0 os,p.drop at'].flatten=madeP p (newC id 0 os)):=by
     show _=_
     rw[HMP.out]
     simp
    have HCC:Hid (∀u g,EnvX w u (N++[])→u.heap[g]?=some (.cells #[.slice A at' c, .slice A3 i c3, .slice (cutX 35 A at' c) (n- at') (c- at')] 39 (0,0))→Calls Tryz.prog 231 #[.slice (some ⟨g,0,none⟩) 3 3] u fun e w'=>(∃v,e= .returned v∧w'.ownsRow u.heap.size 137 35 v (madeP p (newC id 0 os)).length ((madeP p (newC id 0 os)).map coC).flatten)∧Below u.heap.size u w'):=fun u g hu hg=>by
     have hb:=EnvX.bel hu
     have hcp:CoinsIn u u.heap.size A p:=CellsIn.up HAA.out hb
     have h:=concatC_any (some ⟨g,0,none⟩) 3 3 [p.take at',newC id 0 os,p.drop at'] u rfl (partsC3 hg HLT.out.1 HNL.out HLT.out.2 (CoinsIn.first hcp at') (own_cells (HF.out.own (w:=u) (B:=0) (by rw[flat35 HNK.out.lens,HNL.out]) (fun y hy=>⟨Nat.zero_le _,hu.box _ _ (mL hy)⟩))) (CoinsIn.rest hcp HPP.out.lens (by rw[HL.out];exact HAT.out) (by rw[HL.out];exact HNC.out.1)) (HPP.out.take _) HNK.out (HPP.out.drop _)) (by omega) HFLT.out.1 HFLT.out.2
     rw[HEQ.out]at h
     exact h
    have HATC:Hid (at'≤c):=Nat.le_trans HAT.out HNC.out.1
    clear hlt hc1 hc2 hnk hnl
    go_upto_region 3 with (fail)
    refine rgQ [0] [] EK rfl fun hw=>?_
    refine qv rfl (fun u hu=>ltZ_op u C3.out rfl rfl) hw ?_
    refine enP fun u303 EX302=>?_
    go_upto_region 7 with (fail)
    refine rgQ [0,1,2,3,4] [] EX302 rfl fun hw=>?_
    refine qo rfl hw ?_
    refine qv rfl (fun u hu=>load_any_op u (box_idvP hu (mR mH) HIL.out) rfl) hw ?_
    refine qv (v:=inV ⟨id,0⟩) rfl (fun u hu=>buildA_op u (built_in0 HIL.out)) hw ?_
    refine qc rfl func230 (fun u hu=>HPL.out u (EnvX.bel hu)) hw ?_
    refine qo rfl hw ?_
    refine enP fun u306 EX305=>?_
    go_upto_region 8 with (fail)
    refine rgK [0,1,2,3,4,5,6] 3 EX305 rfl fun hw=>?_
    refine qw 2 hw ?_
    refine qv (v:= .slice A at' c) rfl (fun u hu=>cutXh_op elCo u HATC.out rfl rfl) hw ?_
    refine qw 3 hw ?_
    refine qv (v:= .slice (cutX 35 A at' c) (n- at') (c- at')) rfl (fun u hu=>cutXl_op elCo u HAT.out rfl rfl) hw ?_
    refine wpG_nil<|aO 7 (hOp_fresh (R:=BuiltS3 39 (.slice A at' c) (.slice A3 i c3) (.slice (cutX 35 A at' c) (n- at') (c- at'))) (M0:=(N++((w.heap.size,oc (arrB 32 id) 26)::[]))) rfl rfl (fun _ h=>h) (fun u hu=>FAt_buildS3 elSls rfl rfl rfl rfl rfl rfl u) ?_)
    rintro _ _ ⟨g3,rfl,rfl⟩ hf he308;intro K' hK';go_big_quiet_op;go_big_quiet_on
    clear hf
    change anyH _ _ _ _ _ _ _ _ ((g3,oc #[.slice A at' c, .slice A3 i c3, .slice (cutX 35 A at' c) (n- at') (c- at')] 39)::(N++((w.heap.size,oc (arrB 32 id) 26)::[])))
    refine aO 8 (qr (R:=FreshR 137 35 (madeP p (newC id 0 os)).length ((madeP p (newC id 0 os)).map coC).flatten) rfl func231 (fun u hu=>callsR_fresh (HCC.out u g3 (EnvX.sub hu (fun y hy=>mT (mL (by rwa[List.append_nil]at hy)))) (hu.box _ _ mH))) ?_)
    rintro x9 N9 hF hf he309
    have HF9:=hD (And.intro hF hf)
    clear hF
    clear hf
    refine phF [9] 0 rfl he309 fun hw=>?_
    refine qo rfl hw ?_
    refine eH fun u312 EX311=>?_
    have HBE:=hD (EnvX.bel EX311.out)
    have HMO:Hid (okP (madeP p (newC id 0 os))):=madeP_ok HPP.out HNK.out
    have HOW:=hD (HF9.out.1.own (w:=u312) (B:=w.heap.size) (flat35 HMO.out.lens) (fun y hy=>⟨(HF9.out.2 y hy).1,EnvX.box EX311.out _ _ (mL hy)⟩))
    go_wp2
    go_returns
    exact⟨⟨_,rfl,HOW.out⟩,HBE.out⟩
theorem list_step{α:Type}{d:α}{l q:List α}{k:Nat}(h:l.take k=q.take k)(h1:k<l.length)(h2:k<q.length)(e:l.getD k d=q.getD k d):l.take (k+1)=q.take (k+1):=by
 rw[List.take_add_one,List.take_add_one,h,gE h1,gE h2]
 rw[gD,gD,gE h1,gE h2]at e
 simp only[Option.getD_some]at e
 rw[e]
theorem eqIns_any (l q:List InR) (A A':Option Addr) (n c m c':Nat) (w:World) (hl:l.length=n) (hq:q.length=m) (hnc:n≤c) (hc:c≤maxLen) (hmc:m≤c') (hc':c'≤maxLen) (hI:okIns l) (hJ:okIns q) (hA:InsIn w w.heap.size A l) (hB:InsIn w w.heap.size A' q):
   Rz 134 #[.slice A n c, .slice A' m c'] w (.bool (decide (l=q))):=by
 unfold Rz
 unfold maxLen at hc hc'
 have HL:=hD hl
 have HQ:=hD hq
 have HI:=hD (And.intro hI hA)
 have HJ:=hD (And.intro hJ hB)
 clear hI hA hJ hB hl hq
 by_cases hnm:n=m
 · subst hnm
   go_enter func134,ntmps134
   go_upto_region 4 with (fail)
   go_loopw [13] (fun i u=> ∃k:Nat,k≤n∧i= .int .i64 k∧Below w.heap.size w u∧Hid (l.take k=q.take k)) (fun i _=>n- (intOf i).toNat)
   case atStart=>exact⟨0,by omega,rfl,Below.refl _ _,rfl⟩
   case round=>
    obtain⟨k,hk,rfl,hbl,hsame⟩:=hrel
    by_cases hlt:k<n
    · have hk2:(k:Int)<(n:Int):=by omega
      obtain⟨a1,rfl,-,h1⟩:=HI.out.2.loads HI.out.1 (k:=k) (by rw[HL.out];exact hlt)
      obtain⟨a2,rfl,-,h2⟩:=HJ.out.2.loads HJ.out.1 (k:=k) (by rw[HQ.out];exact hlt)
      have H1:=hD h1
      have H2:=hD h2
      have E1:Hid (EnvX w wr []):=⟨hbl,fun _ _ h=>by cases h⟩
      have HX:=hD (HI.out.1.get (i:=k) (by rw[HL.out];exact hlt))
      have HY:=hD (HJ.out.1.get (i:=k) (by rw[HQ.out];exact hlt))
      have HST:=hD (list_step (d:=noIn) hsame.out (by rw[HL.out];exact hlt) (by rw[HQ.out];exact hlt))
      have HNE:Hid (l.getD k noIn≠q.getD k noIn→l≠q):=fun h e=>h (by rw[e])
      clear h1 h2 hsame hbl
      generalize l.getD k noIn=x at *
      generalize q.getD k noIn=y at *
      go_upto_region 6 with (fail)
      refine rgK [0,1,2,3,4,5,6,7,8] 0 E1 rfl fun hw=>?_
      refine qw 3 hw ?_
      refine qv rfl (fun u hu=>load_any_op u (H1.out u (nl hu)).1 rfl) hw ?_
      refine qw 3 hw ?_
      refine qv rfl (fun u hu=>load_any_op u (H2.out u (nl hu)).1 rfl) hw ?_
      refine qv rfl (fun u hu=>neqIn_op HX.out.len HY.out.len rfl u rfl rfl) hw ?_
      refine eH fun u3 EX2=>?_
      by_cases hxy:x=y
      · have hb:eqI x y=true:=by simp[eqI,hxy]
        rw[hb]
        go_wp2
        go_roundw
        case rel=>exact⟨k+1,by omega,by go_num,EnvX.bel EX2.out,HST.out hxy⟩
        case measure=>simp[intOf];omega
      · have hb:eqI x y=false:=by simp[eqI,hxy]
        have HR:Hid (decide (l=q)=false):=by
         show _=_
         simp[HNE.out hxy]
        rw[hb]
        go_wp2
        go_ret
        exact⟨by rw[HR.out];rfl,EnvX.bel EX2.out⟩
    · obtain rfl:k=n:=by omega
      have HR:Hid (decide (l=q)=true):=by
        have h:=hsame.out
        rw[tL (by rw[HL.out];exact Nat.le_refl _),tL (by rw[HQ.out];exact Nat.le_refl _)]at h
        show _=_
        simp[h]
      clear hsame
      go_wp2
      go_ret
      exact⟨by rw[HR.out];rfl,hbl⟩
 · have hne: ¬(n:Int)=(m:Int):=by omega
   have HR:Hid (decide (l=q)=false):=by
    show _=_
    have:l≠q:=fun e=>hnm (by rw[←HL.out,←HQ.out,e])
    simp[this]
   go_enter func134,ntmps134
   go_wp2
   go_ret
   exact⟨by rw[HR.out];rfl,Below.refl _ _⟩
theorem eqOuts_any (l q:List OutR) (A A':Option Addr) (n c m c':Nat) (w:World) (hl:l.length=n) (hq:q.length=m) (hnc:n≤c) (hc:c≤maxLen) (hmc:m≤c') (hc':c'≤maxLen) (hI:okOuts l) (hJ:okOuts q) (hA:OutsIn w w.heap.size A l) (hB:OutsIn w w.heap.size A' q):
   Rz 135 #[.slice A n c, .slice A' m c'] w (.bool (decide (l=q))):=by
 unfold Rz
 unfold maxLen at hc hc'
 have HL:=hD hl
 have HQ:=hD hq
 have HI:=hD (And.intro hI hA)
 have HJ:=hD (And.intro hJ hB)
 clear hI hA hJ hB hl hq
 by_cases hnm:n=m
 · subst hnm
   go_enter func135,ntmps135
   go_upto_region 4 with (fail)
   go_loopw [13] (fun i u=> ∃k:Nat,k≤n∧i= .int .i64 k∧Below w.heap.size w u∧Hid (l.take k=q.take k)) (fun i _=>n- (intOf i).toNat)
   case atStart=>exact⟨0,by omega,rfl,Below.refl _ _,rfl⟩
   case round=>
    obtain⟨k,hk,rfl,hbl,hsame⟩:=hrel
    by_cases hlt:k<n
    · have hk2:(k:Int)<(n:Int):=by omega
      obtain⟨a1,rfl,-,h1⟩:=HI.out.2.loads (k:=k) (by rw[HL.out];exact hlt)
      obtain⟨a2,rfl,-,h2⟩:=HJ.out.2.loads (k:=k) (by rw[HQ.out];exact hlt)
      have H1:=hD h1
      have H2:=hD h2
      have E1:Hid (EnvX w wr []):=⟨hbl,fun _ _ h=>by cases h⟩
      have HX:=hD (HI.out.1.get (i:=k) (by rw[HL.out];exact hlt))
      have HY:=hD (HJ.out.1.get (i:=k) (by rw[HQ.out];exact hlt))
      have HST:=hD (list_step (d:=noOut) hsame.out (by rw[HL.out];exact hlt) (by rw[HQ.out];exact hlt))
      have HNE:Hid (l.getD k noOut≠q.getD k noOut→l≠q):=fun h e=>h (by rw[e])
      clear h1 h2 hsame hbl
      generalize l.getD k noOut=x at *
      generalize q.getD k noOut=y at *
      go_upto_region 6 with (fail)
      refine rgK [0,1,2,3,4,5,6,7,8] 0 E1 rfl fun hw=>?_
      refine qw 3 hw ?_
      refine qv rfl (fun u hu=>load_any_op u (H1.out u (nl hu)).1 rfl) hw ?_
      refine qw 3 hw ?_
      refine qv rfl (fun u hu=>load_any_op u (H2.out u (nl hu)).1 rfl) hw ?_
      refine qv rfl (fun u hu=>neqOut_op rfl u rfl rfl) hw ?_
      refine eH fun u3 EX2=>?_
      by_cases hxy:x=y
      · have hb:eqO x y=true:=by simp[eqO,hxy]
        rw[hb]
        go_wp2
        go_roundw
        case rel=>exact⟨k+1,by omega,by go_num,EnvX.bel EX2.out,HST.out hxy⟩
        case measure=>simp[intOf];omega
      · have hb:eqO x y=false:=by simp[eqO,hxy]
        have HR:Hid (decide (l=q)=false):=by
         show _=_
         simp[HNE.out hxy]
        rw[hb]
        go_wp2
        go_ret
        exact⟨by rw[HR.out];rfl,EnvX.bel EX2.out⟩
    · obtain rfl:k=n:=by omega
      have HR:Hid (decide (l=q)=true):=by
        have h:=hsame.out
        rw[tL (by rw[HL.out];exact Nat.le_refl _),tL (by rw[HQ.out];exact Nat.le_refl _)]at h
        show _=_
        simp[h]
      clear hsame
      go_wp2
      go_ret
      exact⟨by rw[HR.out];rfl,hbl⟩
 · have hne: ¬(n:Int)=(m:Int):=by omega
   have HR:Hid (decide (l=q)=false):=by
    show _=_
    have:l≠q:=fun e=>hnm (by rw[←HL.out,←HQ.out,e])
    simp[this]
   go_enter func135,ntmps135
   go_wp2
   go_ret
   exact⟨by rw[HR.out];rfl,Below.refl _ _⟩
def idxIn:List InR→InR→Int
  |[],_=> -1
  |x::r,id=>if x=id then 0 else if 0≤idxIn r id then idxIn r id+1 else-1
theorem idxIn_hit: ∀(l:List InR)(id:InR)(k:Nat),k<l.length→(∀j,j<k→l.getD j noIn≠id)→l.getD k noIn=id→idxIn l id=(k:Int)
 |[],id,k,hk,_,_=>by cases hk
 |x::r,id,0,_,_,h=>by
  unfold idxIn
  rw[if_pos (show x=id from h)]
  rfl
 |x::r,id,k+1,hk,hn,h=>by
  unfold idxIn
  have hr:=idxIn_hit r id k (by simpa using hk) (fun j hj=>hn (j+1) (by omega)) h
  rw[if_neg (show¬x=id from hn 0 (by omega)),hr,if_pos (by omega)]
  rfl
theorem idxIn_none: ∀(l:List InR)(id:InR),(∀j,j<l.length→l.getD j noIn≠id)→idxIn l id= -1
 |[],id,_=>rfl
 |x::r,id,hn=>by
  unfold idxIn
  have hr:=idxIn_none r id (fun j hj=>hn (j+1) (by simpa using hj))
  rw[if_neg (show¬x=id from hn 0 (by simp)),hr,if_neg (by decide)]
theorem idxIn_mem: ∀(l:List InR)(id:InR),0≤idxIn l id↔id∈l
 |[],id=>⟨fun h=>absurd (show (0:Int)≤ -1 from h) (by decide),fun h=>by cases h⟩
 |x::r,id=>by
  unfold idxIn
  by_cases hx:x=id
  · rw[if_pos hx]
    exact⟨fun _=>by rw[hx];exact List.mem_cons_self ..,fun _=>Int.le_refl _⟩
  · rw [if_neg hx]
    have hr:=idxIn_mem r id
    by_cases h0:0≤idxIn r id
    · rw[if_pos h0]
      exact⟨fun _=>mT (hr.1 h0),fun _=>by omega⟩
    · rw[if_neg h0]
      exact⟨fun h=>absurd h (by decide),fun h=>by
       rcases List.mem_cons.1 h with e|e
       · exact absurd e.symm hx
       · exact absurd (hr.2 e) h0⟩
theorem indexIn_any(l:List InR)(id:InR)(A:Option Addr)(n c:Nat)(w:World)(hl:l.length=n)(hn:n≤1000000)(hI:okIns l)(hA:InsIn w w.heap.size A l)(hid:lenI id):
  Rz 240 #[.slice A n c,inV id] w (.int .i64 (idxIn l id)):=by
 unfold Rz
 have HL:=hD hl
 have HIA:=hD (And.intro hI hA)
 have HD:=hD hid
 have E1:Hid (EnvX w (w.alloc (.cells (inA id) 133)) [(w.heap.size,oc (inA id) 133)]):=(EnvX.start w).new _
 clear hl hI hA hid
 unfold inV
 go_enter func240,ntmps240
 go_upto_region 2 with (fail)
 generalize w.alloc (.cells (inA id) 133)=W at *
 go_loopw [8] (fun iv u=> ∃k:Nat,k≤n∧iv= .int .i64 (k:Int)∧Hid ((∀j,j<k→l.getD j noIn≠id)∧EnvX w u [(w.heap.size,oc (inA id) 133)])) (fun iv _=>n- (intOf iv).toNat)
 case atStart=>exact⟨0,by omega,rfl,(fun j hj=>by omega),E1.out⟩
 case round=>
  obtain⟨k,hk,rfl,hinv⟩:=hrel
  have HNO:=hD hinv.out.1
  have EK:=hD hinv.out.2
  clear hinv E1
  by_cases hlt:k<n
  · have hlt2:(k:Int)<(n:Int):=by omega
    have hkl:k<l.length:=by rw[HL.out];exact hlt
    obtain⟨ad,rfl,-,hld⟩:=HIA.out.2.loads HIA.out.1 hkl
    have HLD:=hD hld
    have HX:Hid (lenI (l.getD k noIn)):=(HIA.out.1.get hkl).len
    have HKN:=hD hlt
    by_cases hx:l.getD k noIn=id
    · have HEQ:Hid (eqI id (l.getD k noIn)=true):=decide_eq_true hx.symm
      have HR:Hid (idxIn l id=(k:Int)):=idxIn_hit l id k hkl HNO.out hx
      clear hx hkl hlt hld
      generalize l.getD k noIn=x at *
      go_upto_region 4 with (fail)
      refine rgK [0,1,2,3,4,5] 0 EK rfl fun hw=>?_
      refine ql rfl mH HD.out hw ?_
      refine qw 2 hw ?_
      refine qv rfl (fun u hu=>idxSl_op underlying74 aggIn.size HKN.out u rfl rfl) hw ?_
      refine qv rfl (fun u hu=>load_any_op u (HLD.out u (nl hu)).1 rfl) hw ?_
      refine qv rfl (fun u hu=>eqlIn_op HD.out HX.out HEQ.out u rfl rfl) hw ?_
      refine eH fun u53 EX52=>?_
      go_wp2
      go_ret
      exact⟨by rw[HR.out];first|done|rfl,EnvX.bel EX52.out⟩
    · have HEQ:Hid (eqI id (l.getD k noIn)=false):=decide_eq_false (fun e=>hx e.symm)
      have HN2:Hid (∀j,j<k+1→l.getD j noIn≠id):=fun j hj=>by
       rcases Nat.lt_or_ge j k with h|h
       · exact HNO.out j h
       · rw[show j=k by omega];exact hx
      clear hx hkl hlt hld
      generalize l.getD k noIn=x at *
      go_upto_region 4 with (fail)
      refine rgK [0,1,2,3,4,5] 0 EK rfl fun hw=>?_
      refine ql rfl mH HD.out hw ?_
      refine qw 2 hw ?_
      refine qv rfl (fun u hu=>idxSl_op underlying74 aggIn.size HKN.out u rfl rfl) hw ?_
      refine qv rfl (fun u hu=>load_any_op u (HLD.out u (nl hu)).1 rfl) hw ?_
      refine qv rfl (fun u hu=>eqlIn_op HD.out HX.out HEQ.out u rfl rfl) hw ?_
      refine eH fun u53 EX52=>?_
      go_wp2
      go_roundw
      case rel=>exact⟨k+1,by omega,by go_num,HN2.out,EX52.out⟩
      case measure=>simp[intOf];omega
  · obtain rfl:k=n:=by omega
    have hge: ¬(k:Int)<(k:Int):=by omega
    have HR:Hid (idxIn l id= -1):=idxIn_none l id (fun j hj=>HNO.out j (by rw[←HL.out];exact hj))
    have HB:=hD (EnvX.bel EK.out)
    clear EK
    go_wp2
    go_ret
    exact⟨by rw[HR.out];first|done|rfl,HB.out⟩
theorem containsIn_any(l:List InR)(id:InR)(A:Option Addr)(n c:Nat)(w:World)(hl:l.length=n)(hn:n≤1000000)(hI:okIns l)(hA:InsIn w w.heap.size A l)(hid:lenI id):
  Rz 234 #[.slice A n c,inV id] w (.bool (decide (id∈l))):=by
 unfold Rz
 have HIX:Hid (Rb w 240 #[.slice A n c,inV id] (.int .i64 (idxIn l id))):=fun u hu=>indexIn_any l id A n c u hl hn hI (hA.up hu) hid
 have HD:=hD hid
 have HB:Hid (decide (0≤idxIn l id)=decide (id∈l)):=decide_eq_decide.2 (idxIn_mem l id)
 have E1:Hid (EnvX w (w.alloc (.cells (inA id) 133)) [(w.heap.size,oc (inA id) 133)]):=(EnvX.start w).new _
 generalize idxIn l id=q at *
 clear hl hI hA hid
 unfold inV
 go_enter func234,ntmps234
 go_upto_region 1 with (fail)
 generalize w.alloc (.cells (inA id) 133)=W at *
 refine rgQ [0,1,2,3,4] [] E1 rfl fun hw=>?_
 refine qo rfl hw ?_
 refine ql rfl mH HD.out hw ?_
 refine qc rfl func240 (fun u hu=>HIX.out u (EnvX.bel hu)) hw ?_
 refine qv rfl (fun u hu=>geZ_op u HB.out rfl rfl) hw ?_
 refine qo rfl hw ?_
 refine enP fun u3 EX2=>?_
 go_wp2
 go_ret
 exact⟨rfl,EnvX.bel EX2.out⟩
def mayInsX(l:List InR):Bool:=decide (l.length≤3∧(∀x∈l,mayIn x=true)∧l.Nodup)
def mayOutsX(l:List OutR):Bool:=decide (1≤l.length∧l.length≤3∧ ∀o∈l,mayOut o=true)
theorem mayX_both(r:TxR):mayX r=(mayInsX r.ins&& mayOutsX r.outs):=by
 unfold mayX mayInsX mayOutsX
 rw[←Bool.decide_and]
 exact decide_eq_decide.2 ⟨fun⟨a,b,c,d,e,f⟩=>⟨⟨a,d,e⟩,b,c,f⟩,fun⟨⟨a,d,e⟩,b,c,f⟩=>⟨a,b,c,d,e,f⟩⟩
theorem mayIns_bad{l:List InR}{i:Nat}(hi:i<l.length)(h:mayIn (l.getD i noIn)=false):mayInsX l=false:=by
 unfold mayInsX
 rw[decide_eq_false_iff_not]
 intro hh
 have hm:l.getD i noIn∈l:=by rw[gD,gE hi];exact List.getElem_mem hi
 have:=hh.2.1 _ hm
 rw[h]at this
 cases this
theorem mayOuts_bad{l:List OutR}{i:Nat}(hi:i<l.length)(h:mayOut (l.getD i noOut)=false):mayOutsX l=false:=by
 unfold mayOutsX
 rw[decide_eq_false_iff_not]
 intro hh
 have hm:l.getD i noOut∈l:=by rw[gD,gE hi];exact List.getElem_mem hi
 have:=hh.2.2 _ hm
 rw[h]at this
 cases this
theorem mem_take_getD{l:List InR}{i:Nat}{x:InR}(hi:i≤l.length):x∈l.take i↔ ∃k,k<i∧l.getD k noIn=x:=by
 constructor
 · intro h
   obtain⟨k,hk,rfl⟩:=List.getElem_of_mem h
   rw[List.length_take]at hk
   exact⟨k,by omega,by rw[List.getElem_take,gD,gE (by omega)];rfl⟩
 · rintro⟨k,hk,rfl⟩
   rw[gD,gE (by omega)]
   exact List.mem_take_iff_getElem.2 ⟨k,by omega,rfl⟩
theorem mayIns_twice{l:List InR}{i:Nat}(hi:i<l.length)(h:l.getD i noIn∈l.take i):mayInsX l=false:=by
 unfold mayInsX
 rw[decide_eq_false_iff_not]
 intro hh
 obtain⟨k,hk,e⟩:=(mem_take_getD (by omega)).1 h
 have hn:=(List.pairwise_iff_getElem.1 hh.2.2) k i (by omega) hi hk
 rw[gD,gE (show k<l.length by omega),gD,gE hi]at e
 exact hn e
theorem mayIns_good{l:List InR}(h3:l.length≤3)(h1: ∀j,j<l.length→mayIn (l.getD j noIn)=true)(h2: ∀j,j<l.length→l.getD j noIn∉ l.take j):mayInsX l=true:=by
 unfold mayInsX
 refine decide_eq_true ⟨h3,fun x hx=>?_,List.pairwise_iff_getElem.2 fun i j hi hj hij=>?_⟩
 · obtain⟨j,hj,rfl⟩:=List.getElem_of_mem hx
   have:=h1 j hj
   rwa[gD,gE hj]at this
 · intro e
   refine h2 j hj ((mem_take_getD (by omega)).2 ⟨i,hij,?_⟩)
   rw[gD,gE hi,gD,gE hj]
   exact e
theorem mayOuts_good{l:List OutR}(h3:1≤l.length∧l.length≤3)(h1: ∀j,j<l.length→mayOut (l.getD j noOut)=true):mayOutsX l=true:=by
 unfold mayOutsX
 refine decide_eq_true ⟨h3.1,h3.2,fun x hx=>?_⟩
 obtain⟨j,hj,rfl⟩:=List.getElem_of_mem hx
 have:=h1 j hj
 rwa[gD,gE hj]at this
theorem InsIn.first{w:World}{B:Nat}{A:Option Addr}{l:List InR}(h:InsIn w B A l)(k:Nat):InsIn w B A (l.take k):=by
 unfold InsIn at *
 intro hp
 have e:(l.map inC).flatten=((l.take k).map inC).flatten++((l.drop k).map inC).flatten:=by rw[←List.flatten_append,←List.map_append,List.take_append_drop]
 obtain⟨ad,e1,hb,hc⟩:=h (by rw[e,lA];omega)
 refine⟨ad,e1,hb,fun j v hj=>hc j v ?_⟩
 rw[e,List.getElem?_append_left]
 · exact hj
 · rcases Nat.lt_or_ge j ((l.take k).map inC).flatten.length with h'|h'
   · exact h'
   · rw[gN h']at hj;cases hj
theorem mayIns_any (l:List InR) (A:Option Addr) (n c:Nat) (w:World) (hl:l.length=n) (hnc:n≤c) (hcm:c≤maxLen) (hI:okIns l) (hA:InsIn w w.heap.size A l):
   Rz 227 #[.slice A n c] w (.bool (mayInsX l)):=by
 unfold Rz
 have HN63:Hid (n<9223372036854775808):=by show _<_;unfold maxLen at hcm;omega
 have E1:Hid (EnvX w w []):=EnvX.start w
 have HLN:=hD hl
 by_cases k3:3<n
 · have HF:Hid (mayInsX l=false):=by
    unfold mayInsX
    exact decide_eq_false (fun h=>by have:=h.1;omega)
   have D1:Hid (decide ((3:Int)<(n:Int))=true):=decide_eq_true (by omega)
   clear k3 hl hnc hcm hI hA
   go_enter func227,ntmps227
   go_upto_region 1 with (fail)
   refine rgQ [0,1,2] [] E1 rfl fun hw=>?_
   refine qo rfl hw ?_
   refine qv rfl (fun u hu=>len_op underlying74 HN63.out u rfl) hw ?_
   refine qv rfl (fun u hu=>gtZ_op u D1.out rfl rfl) hw ?_
   refine enP fun u3 EX2=>?_
   have HBE:=hD (EnvX.bel EX2.out)
   go_wp2
   go_ret
   exact⟨by rw[HF.out];first|done|rfl,HBE.out⟩
 · have D1:Hid (decide ((3:Int)<(n:Int))=false):=decide_eq_false (by omega)
   have HN3:Hid (n≤3):=by show _≤_;omega
   have HII:=hD hI
   have HAA:=hD hA
   have HNC:=hD hnc
   clear k3 hl hnc hcm hI hA
   go_enter func227,ntmps227
   go_upto_region 1 with (fail)
   refine rgQ [0,1,2] [] E1 rfl fun hw=>?_
   refine qo rfl hw ?_
   refine qv rfl (fun u hu=>len_op underlying74 HN63.out u rfl) hw ?_
   refine qv rfl (fun u hu=>gtZ_op u D1.out rfl rfl) hw ?_
   refine enP fun u3 EX2=>?_
   go_upto_region 3 with (fail)
   refine rgQ [0,1,2] [] EX2 rfl fun hw=>?_
   refine qo rfl hw ?_
   refine qv rfl (fun u hu=>len_op underlying74 HN63.out u rfl) hw ?_
   refine qo rfl hw ?_
   refine enP fun u6 EX5=>?_
   have E0:=hD EX5.out
   clear EX5 E1
   go_upto_region 4 with (fail)
   go_loopw [10] (fun iv u=> ∃i:Nat,i≤n∧iv= .int .i64 (i:Int)∧Hid ((∀j,j<i→mayIn (l.getD j noIn)=true)∧(∀j,j<i→l.getD j noIn∉ l.take j)∧EnvX w u [])) (fun iv _=>n- (intOf iv).toNat)
   case atStart=>exact⟨0,by omega,rfl,(fun j hj=>by omega),(fun j hj=>by omega),E0.out⟩
   case round=>
    obtain⟨i,hi,rfl,hinv⟩:=hrel
    have H1:=hD hinv.out.1
    have H2:=hD hinv.out.2.1
    have EK:=hD hinv.out.2.2
    clear hinv E0
    by_cases hlt:i<n
    · have C4:Hid (decide ((i:Int)<(n:Int))=true):=decide_eq_true (by omega)
      have HI:=hD hlt
      have hil:i<l.length:=by rw[HLN.out];exact hlt
      have HIL:=hD hil
      have HIC:Hid (i≤c):=by have:=HNC.out;show _≤_;omega
      obtain⟨ad,rfl,-,hld⟩:=HAA.out.loads HII.out hil
      have HLD:=hD hld
      have HX:Hid (lenI (l.getD i noIn)):=(HII.out.get hil).len
      have HCT:Hid (Rb w 234 #[.slice (some ad) i c,inV (l.getD i noIn)] (.bool (decide (l.getD i noIn∈l.take i)))):=fun u hu=>
        containsIn_any (l.take i) _ _ i c u (by rw[List.length_take];omega) (by have:=HN3.out;omega) (HII.out.take i) ((HAA.out.first i).up hu) HX.out
      obtain⟨x,hx⟩: ∃x,l.getD i noIn=x:=⟨_,rfl⟩
      obtain⟨cb,hcb⟩: ∃cb,decide (l.getD i noIn∈l.take i)=cb:=⟨_,rfl⟩
      have HCB:=hD hcb
      rw[hcb]at HCT
      have HXE:=hD hx
      rw[hx]at HX HLD HCT
      clear hld hil hlt hx hcb
      go_upto_region 4 with (fail)
      refine rgQ [0] [] EK rfl fun hw=>?_
      refine qv rfl (fun u hu=>ltZ_op u C4.out rfl rfl) hw ?_
      refine enP fun u23 EX22=>?_
      go_upto_region 5 with (fail)
      refine rgQ [0,1,2] [3,4,5] EX22 rfl fun hw=>?_
      refine qo rfl hw ?_
      refine qv rfl (fun u hu=>idxSl_op underlying74 aggIn.size HI.out u rfl rfl) hw ?_
      refine qv rfl (fun u hu=>load_any_op u (HLD.out u (nl hu)).1 rfl) hw ?_
      refine wpG_nil<|qn rfl (new_in _) fun gi HG6 he25=>?_
      refine phE [4] [5] he25 fun hw=>?_
      refine qo rfl hw ?_
      refine wpG_nil<|(hOp_store rfl (gi) (inA x) rfl rfl HG6.out.1 133 ((inA noIn)) mH (infoIn _ (inA_size HX.out)) ((inA_size' (Nat.zero_le _)).trans (inA_size HX.out).symm) (inA_one _) [(gi,oc (inA x) 133)] (mA ⟨.inl rfl,fun _ h=>by cases h⟩) ?_)
      refine fun _=>enL fun u29 EX28=>?_
      by_cases c6:x.i<0
      · have C6:Hid (decide (x.i<0)=true):=decide_eq_true c6
        have HF:Hid (mayInsX l=false):=mayIns_bad HIL.out (by rw[HXE.out];exact decide_eq_false (by omega))
        clear c6
        go_upto_region 6 with (fail)
        refine rgK [0,1,2,3,4,5,6,7,8,9,10,11,12,13,14] 0 EX28 rfl fun hw=>?_
        refine qf rfl hw ?_
        refine ql rfl mH HX.out hw ?_
        refine qv rfl (fun u hu=>ltZ_op u C6.out rfl rfl) hw ?_
        refine qw 12 hw ?_
        refine eH fun u32 EX31=>?_
        have HBE:=hD (EnvX.bel EX31.out)
        go_wp2
        go_ret
        exact⟨by rw[HF.out];first|done|rfl,HBE.out⟩
      have C6:Hid (decide (x.i<0)=false):=decide_eq_false c6
      by_cases c14:2<x.i
      · have C14:Hid (decide (2<x.i)=true):=decide_eq_true c14
        have HF:Hid (mayInsX l=false):=mayIns_bad HIL.out (by rw[HXE.out];exact decide_eq_false (by omega))
        clear c6 c14
        go_upto_region 6 with (fail)
        refine rgK [0,1,2,3,4,5,6,7,8,9,10,11,12,13,14] 0 EX28 rfl fun hw=>?_
        refine qf rfl hw ?_
        refine ql rfl mH HX.out hw ?_
        refine qv rfl (fun u hu=>ltZ_op u C6.out rfl rfl) hw ?_
        refine qw 2 hw ?_
        refine ql rfl mH HX.out hw ?_
        refine qv rfl (fun u hu=>gtZ_op u C14.out rfl rfl) hw ?_
        refine qw 8 hw ?_
        refine eH fun u32 EX31=>?_
        have HBE:=hD (EnvX.bel EX31.out)
        go_wp2
        go_ret
        exact⟨by rw[HF.out];first|done|rfl,HBE.out⟩
      have C14:Hid (decide (2<x.i)=false):=decide_eq_false c14
      have HMI:Hid (mayIn (l.getD i noIn)=true):=by show _=_;rw[HXE.out];exact decide_eq_true (by omega)
      clear c6 c14
      cases cb with
      | true=>
        have HF:Hid (mayInsX l=false):=mayIns_twice HIL.out (of_decide_eq_true HCB.out)
        go_upto_region 6 with (fail)
        refine rgK [0,1,2,3,4,5,6,7,8,9,10,11,12,13,14] 0 EX28 rfl fun hw=>?_
        refine qf rfl hw ?_
        refine ql rfl mH HX.out hw ?_
        refine qv rfl (fun u hu=>ltZ_op u C6.out rfl rfl) hw ?_
        refine qw 2 hw ?_
        refine ql rfl mH HX.out hw ?_
        refine qv rfl (fun u hu=>gtZ_op u C14.out rfl rfl) hw ?_
        refine qw 4 hw ?_
        refine qv (v:= .slice (some ad) i c) rfl (fun u hu=>cutXh_op elIn u HIC.out rfl rfl) hw ?_
        refine ql rfl mH HX.out hw ?_
        refine qc rfl func234 (fun u hu=>HCT.out u (EnvX.bel hu)) hw ?_
        refine qo rfl hw ?_
        refine eH fun u32 EX31=>?_
        have HBE:=hD (EnvX.bel EX31.out)
        go_wp2
        go_ret
        exact⟨by rw[HF.out];first|done|rfl,HBE.out⟩
      | false=>
        go_upto_region 6 with (fail)
        refine rgK [0,1,2,3,4,5,6,7,8,9,10,11,12,13,14] 0 EX28 rfl fun hw=>?_
        refine qf rfl hw ?_
        refine ql rfl mH HX.out hw ?_
        refine qv rfl (fun u hu=>ltZ_op u C6.out rfl rfl) hw ?_
        refine qw 2 hw ?_
        refine ql rfl mH HX.out hw ?_
        refine qv rfl (fun u hu=>gtZ_op u C14.out rfl rfl) hw ?_
        refine qw 4 hw ?_
        refine qv (v:= .slice (some ad) i c) rfl (fun u hu=>cutXh_op elIn u HIC.out rfl rfl) hw ?_
        refine ql rfl mH HX.out hw ?_
        refine qc rfl func234 (fun u hu=>HCT.out u (EnvX.bel hu)) hw ?_
        refine qo rfl hw ?_
        refine eH fun u32 EX31=>?_
        have H3:Hid (∀j,j<i+1→mayIn (l.getD j noIn)=true):=fun j hj=>by
         rcases Nat.lt_or_ge j i with h|h
         · exact H1.out j h
         · rw[show j=i by omega];exact HMI.out
        have H4:Hid (∀j,j<i+1→l.getD j noIn∉ l.take j):=fun j hj=>by
         rcases Nat.lt_or_ge j i with h|h
         · exact H2.out j h
         · rw[show j=i by omega];exact of_decide_eq_false HCB.out
        have hii:=HI.out
        have hn3:=HN3.out
        go_wp2
        go_roundw
        case rel=>exact⟨i+1,by omega,by go_num,H3.out,H4.out,EX31.out.sub (fun _ h=>by cases h)⟩
        case measure=>simp[intOf];omega
    · obtain rfl:i=n:=by omega
      have C4:Hid (decide ((i:Int)<(i:Int))=false):=decide_eq_false (by omega)
      have HF:Hid (mayInsX l=true):=mayIns_good (by rw[HLN.out];exact HN3.out) (by rw[HLN.out];exact H1.out) (by rw[HLN.out];exact H2.out)
      go_upto_region 4 with (fail)
      refine rgQ [0] [] EK rfl fun hw=>?_
      refine qv rfl (fun u hu=>ltZ_op u C4.out rfl rfl) hw ?_
      refine enP fun u123 EX122=>?_
      have HBE:=hD (EnvX.bel EX122.out)
      go_wp2
      go_ret
      exact⟨by rw[HF.out];first|done|rfl,HBE.out⟩
theorem mayOuts_any (l:List OutR) (A:Option Addr) (n c:Nat) (w:World) (hl:l.length=n) (hnc:n≤c) (hcm:c≤maxLen) (hA:OutsIn w w.heap.size A l):
   Rz 228 #[.slice A n c] w (.bool (mayOutsX l)):=by
 unfold Rz
 have HN63:Hid (n<9223372036854775808):=by show _<_;unfold maxLen at hcm;omega
 have E1:Hid (EnvX w w []):=EnvX.start w
 have HLN:=hD hl
 by_cases k1:n<1
 · have HF:Hid (mayOutsX l=false):=by
    unfold mayOutsX
    exact decide_eq_false (fun h=>by have:=h.1;omega)
   have D1:Hid (decide ((n:Int)<1)=true):=decide_eq_true (by omega)
   clear k1 hl hnc hcm hA
   go_enter func228,ntmps228
   go_upto_region 1 with (fail)
   refine rgQ [0,1,2,3,4,5,6,7] [] E1 rfl fun hw=>?_
   refine qo rfl hw ?_
   refine qv rfl (fun u hu=>len_op underlying75 HN63.out u rfl) hw ?_
   refine qv rfl (fun u hu=>ltZ_op u D1.out rfl rfl) hw ?_
   refine qw 5 hw ?_
   refine enP fun u3 EX2=>?_
   have HBE:=hD (EnvX.bel EX2.out)
   go_wp2
   go_ret
   exact⟨by rw[HF.out];first|done|rfl,HBE.out⟩
 have D1:Hid (decide ((n:Int)<1)=false):=decide_eq_false (by omega)
 by_cases k3:3<n
 · have HF:Hid (mayOutsX l=false):=by
    unfold mayOutsX
    exact decide_eq_false (fun h=>by have:=h.2.1;omega)
   have D2:Hid (decide ((3:Int)<(n:Int))=true):=decide_eq_true (by omega)
   clear k1 k3 hl hnc hcm hA
   go_enter func228,ntmps228
   go_upto_region 1 with (fail)
   refine rgQ [0,1,2,3,4,5,6,7] [] E1 rfl fun hw=>?_
   refine qo rfl hw ?_
   refine qv rfl (fun u hu=>len_op underlying75 HN63.out u rfl) hw ?_
   refine qv rfl (fun u hu=>ltZ_op u D1.out rfl rfl) hw ?_
   refine qw 2 hw ?_
   refine qv rfl (fun u hu=>len_op underlying75 HN63.out u rfl) hw ?_
   refine qv rfl (fun u hu=>gtZ_op u D2.out rfl rfl) hw ?_
   refine qo rfl hw ?_
   refine enP fun u3 EX2=>?_
   have HBE:=hD (EnvX.bel EX2.out)
   go_wp2
   go_ret
   exact⟨by rw[HF.out];first|done|rfl,HBE.out⟩
 · have D2:Hid (decide ((3:Int)<(n:Int))=false):=decide_eq_false (by omega)
   have HN3:Hid (1≤n∧n≤3):=by show _∧_;omega
   have HAA:=hD hA
   clear k1 k3 hl hnc hcm hA
   go_enter func228,ntmps228
   go_upto_region 1 with (fail)
   refine rgQ [0,1,2,3,4,5,6,7] [] E1 rfl fun hw=>?_
   refine qo rfl hw ?_
   refine qv rfl (fun u hu=>len_op underlying75 HN63.out u rfl) hw ?_
   refine qv rfl (fun u hu=>ltZ_op u D1.out rfl rfl) hw ?_
   refine qw 2 hw ?_
   refine qv rfl (fun u hu=>len_op underlying75 HN63.out u rfl) hw ?_
   refine qv rfl (fun u hu=>gtZ_op u D2.out rfl rfl) hw ?_
   refine qo rfl hw ?_
   refine enP fun u3 EX2=>?_
   go_upto_region 3 with (fail)
   refine rgQ [0,1,2] [] EX2 rfl fun hw=>?_
   refine qo rfl hw ?_
   refine qv rfl (fun u hu=>len_op underlying75 HN63.out u rfl) hw ?_
   refine qo rfl hw ?_
   refine enP fun u6 EX5=>?_
   have E0:=hD EX5.out
   clear EX5 E1
   go_upto_region 4 with (fail)
   go_loopw [15] (fun iv u=> ∃i:Nat,i≤n∧iv= .int .i64 (i:Int)∧Hid ((∀j,j<i→mayOut (l.getD j noOut)=true)∧EnvX w u [])) (fun iv _=>n- (intOf iv).toNat)
   case atStart=>exact⟨0,by omega,rfl,(fun j hj=>by omega),E0.out⟩
   case round=>
    obtain⟨i,hi,rfl,hinv⟩:=hrel
    have H1:=hD hinv.out.1
    have EK:=hD hinv.out.2
    clear hinv E0
    by_cases hlt:i<n
    · have C4:Hid (decide ((i:Int)<(n:Int))=true):=decide_eq_true (by omega)
      have HI:=hD hlt
      have hil:i<l.length:=by rw[HLN.out];exact hlt
      obtain⟨ad,rfl,-,hld⟩:=HAA.out.loads hil
      have HLD:=hD hld
      have HBAD:Hid (mayOut (l.getD i noOut)=false→mayOutsX l=false):=mayOuts_bad hil
      have HGO:Hid (mayOut (l.getD i noOut)=true→ ∀q,q<i+1→mayOut (l.getD q noOut)=true):=fun hm q hq=>by
        rcases Nat.lt_or_ge q i with h|h
        · exact H1.out q h
        · rw[show q=i by omega];exact hm
      clear hld hil hlt
      generalize l.getD i noOut=ox at *
      go_upto_region 4 with (fail)
      refine rgQ [0] [] EK rfl fun hw=>?_
      refine qv rfl (fun u hu=>ltZ_op u C4.out rfl rfl) hw ?_
      refine enP fun u23 EX22=>?_
      go_upto_region 5 with (fail)
      refine rgQ [0,1] [2,3] EX22 rfl fun hw=>?_
      refine qv rfl (fun u hu=>idxSl_op underlying75 aggOut.size HI.out u rfl rfl) hw ?_
      refine qv rfl (fun u hu=>load_any_op u (HLD.out u (nl hu)).1 rfl) hw ?_
      refine wpG_nil<|qn rfl (new_out _) fun gi HG6 he25=>?_
      change lexH _ _ _ _ _ _ [(gi,oc (outA noOut) 135)]
      refine(hOp_store rfl (gi) (outA ox) rfl rfl HG6.out.1 135 ((outA noOut)) mH (infoOut _ (outA_size _)) rfl (outA_one _) [(gi,oc (outA ox) 135)] (mA ⟨.inl rfl,fun _ h=>by cases h⟩) ?_)
      refine fun _=>enL fun u28 EX27=>?_
      by_cases c0:ox.v<1
      · have C0:Hid (decide (ox.v<1)=true):=decide_eq_true c0
        have HF:Hid (mayOutsX l=false):=HBAD.out (decide_eq_false (by omega))
        clear c0
        go_upto_region 6 with (fail)
        refine rgQ [0,1,2,3,4,5,6,7,8,9,10,11,12,13,14,15,16,17] [] EX27 rfl fun hw=>?_
        refine qf rfl hw ?_
        refine ql rfl mH trivial hw ?_
        refine qv rfl (fun u hu=>ltZ_op u C0.out rfl rfl) hw ?_
        refine qw 15 hw ?_
        refine enP fun u31 EX30=>?_
        have HBE:=hD (EnvX.bel EX30.out)
        go_wp2
        go_ret
        exact⟨by rw[HF.out];first|done|rfl,HBE.out⟩
      have C0:Hid (decide (ox.v<1)=false):=decide_eq_false c0
      by_cases c1:1099511627776<ox.v
      · have C1:Hid (decide (1099511627776<ox.v)=true):=decide_eq_true c1
        have HF:Hid (mayOutsX l=false):=HBAD.out (decide_eq_false (by omega))
        clear c0 c1
        go_upto_region 6 with (fail)
        refine rgQ [0,1,2,3,4,5,6,7,8,9,10,11,12,13,14,15,16,17] [] EX27 rfl fun hw=>?_
        refine qf rfl hw ?_
        refine ql rfl mH trivial hw ?_
        refine qv rfl (fun u hu=>ltZ_op u C0.out rfl rfl) hw ?_
        refine qw 2 hw ?_
        refine ql rfl mH trivial hw ?_
        refine qv rfl (fun u hu=>gtZ_op u C1.out rfl rfl) hw ?_
        refine qw 11 hw ?_
        refine enP fun u31 EX30=>?_
        have HBE:=hD (EnvX.bel EX30.out)
        go_wp2
        go_ret
        exact⟨by rw[HF.out];first|done|rfl,HBE.out⟩
      have C1:Hid (decide (1099511627776<ox.v)=false):=decide_eq_false c1
      by_cases c2:ox.tw<0
      · have C2:Hid (decide (ox.tw<0)=true):=decide_eq_true c2
        have HF:Hid (mayOutsX l=false):=HBAD.out (decide_eq_false (by omega))
        clear c0 c1 c2
        go_upto_region 6 with (fail)
        refine rgQ [0,1,2,3,4,5,6,7,8,9,10,11,12,13,14,15,16,17] [] EX27 rfl fun hw=>?_
        refine qf rfl hw ?_
        refine ql rfl mH trivial hw ?_
        refine qv rfl (fun u hu=>ltZ_op u C0.out rfl rfl) hw ?_
        refine qw 2 hw ?_
        refine ql rfl mH trivial hw ?_
        refine qv rfl (fun u hu=>gtZ_op u C1.out rfl rfl) hw ?_
        refine qw 3 hw ?_
        refine ql rfl mH trivial hw ?_
        refine qv rfl (fun u hu=>ltZ_op u C2.out rfl rfl) hw ?_
        refine qw 6 hw ?_
        refine enP fun u31 EX30=>?_
        have HBE:=hD (EnvX.bel EX30.out)
        go_wp2
        go_ret
        exact⟨by rw[HF.out];first|done|rfl,HBE.out⟩
      have C2:Hid (decide (ox.tw<0)=false):=decide_eq_false c2
      by_cases c3:255<ox.tw
      · have C3:Hid (decide (255<ox.tw)=true):=decide_eq_true c3
        have HF:Hid (mayOutsX l=false):=HBAD.out (decide_eq_false (by omega))
        clear c0 c1 c2 c3
        go_upto_region 6 with (fail)
        refine rgQ [0,1,2,3,4,5,6,7,8,9,10,11,12,13,14,15,16,17] [] EX27 rfl fun hw=>?_
        refine qf rfl hw ?_
        refine ql rfl mH trivial hw ?_
        refine qv rfl (fun u hu=>ltZ_op u C0.out rfl rfl) hw ?_
        refine qw 2 hw ?_
        refine ql rfl mH trivial hw ?_
        refine qv rfl (fun u hu=>gtZ_op u C1.out rfl rfl) hw ?_
        refine qw 3 hw ?_
        refine ql rfl mH trivial hw ?_
        refine qv rfl (fun u hu=>ltZ_op u C2.out rfl rfl) hw ?_
        refine qw 3 hw ?_
        refine ql rfl mH trivial hw ?_
        refine qv rfl (fun u hu=>gtZ_op u C3.out rfl rfl) hw ?_
        refine qo rfl hw ?_
        refine enP fun u31 EX30=>?_
        have HBE:=hD (EnvX.bel EX30.out)
        go_wp2
        go_ret
        exact⟨by rw[HF.out];first|done|rfl,HBE.out⟩
      have C3:Hid (decide (255<ox.tw)=false):=decide_eq_false c3
      have H3:=hD (HGO.out (decide_eq_true (by omega)))
      clear c0 c1 c2 c3
      go_upto_region 6 with (fail)
      refine rgQ [0,1,2,3,4,5,6,7,8,9,10,11,12,13,14,15,16,17] [] EX27 rfl fun hw=>?_
      refine qf rfl hw ?_
      refine ql rfl mH trivial hw ?_
      refine qv rfl (fun u hu=>ltZ_op u C0.out rfl rfl) hw ?_
      refine qw 2 hw ?_
      refine ql rfl mH trivial hw ?_
      refine qv rfl (fun u hu=>gtZ_op u C1.out rfl rfl) hw ?_
      refine qw 3 hw ?_
      refine ql rfl mH trivial hw ?_
      refine qv rfl (fun u hu=>ltZ_op u C2.out rfl rfl) hw ?_
      refine qw 3 hw ?_
      refine ql rfl mH trivial hw ?_
      refine qv rfl (fun u hu=>gtZ_op u C3.out rfl rfl) hw ?_
      refine qo rfl hw ?_
      refine enP fun u31 EX30=>?_
      have hii:=HI.out
      have hn3:=HN3.out.2
      go_wp2
      go_roundw
      case rel=>exact⟨i+1,by omega,by go_num,H3.out,EX30.out.sub (fun _ h=>by cases h)⟩
      case measure=>simp[intOf];omega
    · obtain rfl:i=n:=by omega
      have C4:Hid (decide ((i:Int)<(i:Int))=false):=decide_eq_false (by omega)
      have HF:Hid (mayOutsX l=true):=mayOuts_good (by rw[HLN.out];exact HN3.out) (by rw[HLN.out];exact H1.out)
      go_upto_region 4 with (fail)
      refine rgQ [0] [] EK rfl fun hw=>?_
      refine qv rfl (fun u hu=>ltZ_op u C4.out rfl rfl) hw ?_
      refine enP fun u123 EX122=>?_
      have HBE:=hD (EnvX.bel EX122.out)
      go_wp2
      go_ret
      exact⟨by rw[HF.out];first|done|rfl,HBE.out⟩
theorem mayXp_any(r:TxR)(A1:Option Addr)(n1 c1:Nat)(A2:Option Addr)(n2 c2:Nat)(w:World)(ht:TxOk w ⟨r,A1,n1,c1,A2,n2,c2⟩):
  Rz 210 #[txV ⟨r,A1,n1,c1,A2,n2,c2⟩] w (.bool (mayX r)):=by
 unfold Rz
 obtain⟨b1,hb1⟩: ∃b1,mayInsX r.ins=b1:=⟨_,rfl⟩
 obtain⟨b2,hb2⟩: ∃b2,mayOutsX r.outs=b2:=⟨_,rfl⟩
 have HI1:Hid (Rb w 227 #[.slice A1 n1 c1] (.bool b1)):=fun u hu=>by
  have h:=mayIns_any r.ins A1 n1 c1 u ht.l1 ht.b1.1 ht.b1.2 ht.o1 (ht.m1.up hu)
  rwa[hb1]at h
 have HO1:Hid (Rb w 228 #[.slice A2 n2 c2] (.bool b2)):=fun u hu=>by
  have h:=mayOuts_any r.outs A2 n2 c2 u ht.l2 ht.b2.1 ht.b2.2 (ht.m2.up hu)
  rwa[hb2]at h
 have HF:Hid (mayX r=(b1&& b2)):=by show _=_;rw[mayX_both,hb1,hb2]
 have E1:Hid (EnvX w (w.alloc (.cells (txA ⟨r,A1,n1,c1,A2,n2,c2⟩) 77)) [(w.heap.size,oc (txA ⟨r,A1,n1,c1,A2,n2,c2⟩) 77)]):=(EnvX.start w).new _
 clear ht hb1 hb2
 cases b1 with
 |false=>
  unfold txV
  go_enter func210,ntmps210
  go_upto_region 1 with (fail)
  generalize w.alloc (.cells (txA ⟨r,A1,n1,c1,A2,n2,c2⟩) 77)=W at *
  refine rgQ [0,1,2,3,4,5,6,7,8] [] E1 rfl fun hw=>?_
  refine qf rfl hw ?_
  refine ql rfl mH trivial hw ?_
  refine qc rfl func227 (fun u hu=>HI1.out u (EnvX.bel hu)) hw ?_
  refine qw 6 hw ?_
  refine enP fun u3 EX2=>?_
  have HBE:=hD (EnvX.bel EX2.out)
  go_wp2
  go_ret
  exact⟨by rw[HF.out];first|done|rfl,HBE.out⟩
 | true=>
  cases b2 with
  |false=>
   unfold txV
   go_enter func210,ntmps210
   go_upto_region 1 with (fail)
   generalize w.alloc (.cells (txA ⟨r,A1,n1,c1,A2,n2,c2⟩) 77)=W at *
   refine rgQ [0,1,2,3,4,5,6,7,8] [] E1 rfl fun hw=>?_
   refine qf rfl hw ?_
   refine ql rfl mH trivial hw ?_
   refine qc rfl func227 (fun u hu=>HI1.out u (EnvX.bel hu)) hw ?_
   refine qw 2 hw ?_
   refine ql rfl mH trivial hw ?_
   refine qc rfl func228 (fun u hu=>HO1.out u (EnvX.bel hu)) hw ?_
   refine qw 2 hw ?_
   refine enP fun u3 EX2=>?_
   have HBE:=hD (EnvX.bel EX2.out)
   go_wp2
   go_ret
   exact⟨by rw[HF.out];first|done|rfl,HBE.out⟩
  |true=>
   unfold txV
   go_enter func210,ntmps210
   go_upto_region 1 with (fail)
   generalize w.alloc (.cells (txA ⟨r,A1,n1,c1,A2,n2,c2⟩) 77)=W at *
   refine rgQ [0,1,2,3,4,5,6,7,8] [] E1 rfl fun hw=>?_
   refine qf rfl hw ?_
   refine ql rfl mH trivial hw ?_
   refine qc rfl func227 (fun u hu=>HI1.out u (EnvX.bel hu)) hw ?_
   refine qw 2 hw ?_
   refine ql rfl mH trivial hw ?_
   refine qc rfl func228 (fun u hu=>HO1.out u (EnvX.bel hu)) hw ?_
   refine qw 2 hw ?_
   refine enP fun u3 EX2=>?_
   have HBE:=hD (EnvX.bel EX2.out)
   go_wp2
   go_ret
   exact⟨by rw[HF.out];first|done|rfl,HBE.out⟩
theorem mayP_any(t:TxM)(w:World)(ht:TxOk w t):Rz 210 #[txV t] w (.bool (mayX t.r)):=by
 unfold Rz
 obtain⟨r,A1,n1,c1,A2,n2,c2⟩:=t
 exact mayXp_any r A1 n1 c1 A2 n2 c2 w ht
theorem putL_one{v:Int}(h:0≤v∧v≤255):putL v.toNat 1=[v]:=by
 show []++[((v.toNat % 256:Nat):Int)]=[v]
 rw[List.nil_append]
 congr 1
 omega
theorem putL_oneN{n:Nat}(h:n≤255):putL n 1=[(n:Int)]:=by
 show []++[((n % 256:Nat):Int)]=[(n:Int)]
 rw[List.nil_append]
 congr 1
 omega
theorem pputX_no(r:TxR)(A1:Option Addr)(n1 c1:Nat)(A2:Option Addr)(n2 c2:Nat)(w:World)(ht:TxOk w ⟨r,A1,n1,c1,A2,n2,c2⟩)(k1:mayX r=false):
  Calls Tryz.prog 184 #[txV ⟨r,A1,n1,c1,A2,n2,c2⟩] w fun e w'=>(∃v,e= .returned (.tuple #[v, .bool (putX r).2])∧OwnB w' w.heap.size v (putX r).1)∧Below w.heap.size w w':=by
 have hp:putX r=([],false):=by unfold putX;rw[k1];rfl
 rw[hp]
 clear hp
 have HT:=hD ht
 have HN63:=hD ht.n63
 obtain⟨hn1,hn2⟩:=ht.n63
 have HL:Hid (r.ins.length=n1∧r.outs.length=n2):=⟨ht.l1,ht.l2⟩
 have HMY:Hid (Rb w 210 #[txV ⟨r,A1,n1,c1,A2,n2,c2⟩] (.bool false)):=fun u hu=>by
  have h:=mayXp_any r A1 n1 c1 A2 n2 c2 u (ht.up hu)
  rwa[k1]at h
 have E1:Hid (EnvX w (w.alloc (.cells (txA ⟨r,A1,n1,c1,A2,n2,c2⟩) 77)) [(w.heap.size,oc (txA ⟨r,A1,n1,c1,A2,n2,c2⟩) 77)]):=(EnvX.start w).new _
 clear ht k1
 unfold txV at *
 go_enter func184,ntmps184
 go_upto_region 1 with (fail)
 generalize w.alloc (.cells (txA ⟨r,A1,n1,c1,A2,n2,c2⟩) 77)=W at *
 refine rgQ [0,1,2] [] E1 rfl fun hw=>?_
 refine ql rfl mH trivial hw ?_
 refine qc rfl func210 (fun u hu=>HMY.out u (EnvX.bel hu)) hw ?_
 refine qo rfl hw ?_
 refine enP fun u3 EX2=>?_
 have HBE:=hD (EnvX.bel EX2.out)
 go_wp2
 go_returns
 exact⟨⟨_,rfl,OwnB.nil _ _⟩,HBE.out⟩
theorem pputX_yes(r:TxR)(A1:Option Addr)(n1 c1:Nat)(A2:Option Addr)(n2 c2:Nat)(w:World)(ht:TxOk w ⟨r,A1,n1,c1,A2,n2,c2⟩)(k1:mayX r=true):
  Calls Tryz.prog 184 #[txV ⟨r,A1,n1,c1,A2,n2,c2⟩] w fun e w'=>(∃v,e= .returned (.tuple #[v, .bool (putX r).2])∧OwnB w' w.heap.size v (putX r).1)∧Below w.heap.size w w':=by
 have hp:putX r=(bodyX r,true):=by unfold putX;rw[k1];rfl
 rw[hp]
 clear hp
 have HT:=hD ht
 have HN63:=hD ht.n63
 obtain⟨hn1,hn2⟩:=ht.n63
 have HL:Hid (r.ins.length=n1∧r.outs.length=n2):=⟨ht.l1,ht.l2⟩
 have HMY:Hid (Rb w 210 #[txV ⟨r,A1,n1,c1,A2,n2,c2⟩] (.bool true)):=fun u hu=>by
  have h:=mayXp_any r A1 n1 c1 A2 n2 c2 u (ht.up hu)
  rwa[k1]at h
 have E1:Hid (EnvX w (w.alloc (.cells (txA ⟨r,A1,n1,c1,A2,n2,c2⟩) 77)) [(w.heap.size,oc (txA ⟨r,A1,n1,c1,A2,n2,c2⟩) 77)]):=(EnvX.start w).new _
 have hmx:=mayX_iff.1 k1
 have hl1:r.ins.length=n1:=ht.l1
 have hl2:r.outs.length=n2:=ht.l2
 rw[hl1,hl2]at hmx
 obtain⟨hm1,hm2,hm3,hm4,-,hm5⟩:=hmx
 clear hl1 hl2
 have HM4:=hD hm4
 have HM5:=hD hm5
 have HOK:Hid (okX r):=ht.ok
 have HN3:Hid (n1≤3∧n2≤3):=⟨hm1,hm3⟩
 have HPT:Hid (∀(n k:Nat),n<18446744073709551616→k≤8→ ∀u,Calls Tryz.prog 113 #[.int .u64 (n:Int), .int .i64 k] u fun e w'=>(∃v,e= .returned v∧OwnB w' u.heap.size v (putL n k))∧Below u.heap.size u w'):=fun n k hn hk u=>put_any n k u hn hk
 have CN1:Hid (IntKind.u64.wrap (n1:Int)=(n1:Int)):=by show _=_;rw[IntKind.wrap_u64];omega
 have CN2:Hid (IntKind.u64.wrap (n2:Int)=(n2:Int)):=by show _=_;rw[IntKind.wrap_u64];omega
 clear hm4 hm5
 clear ht k1
 unfold txV at *
 go_enter func184,ntmps184
 go_upto_region 1 with (fail)
 generalize w.alloc (.cells (txA ⟨r,A1,n1,c1,A2,n2,c2⟩) 77)=W at *
 refine rgQ [0,1,2] [] E1 rfl fun hw=>?_
 refine ql rfl mH trivial hw ?_
 refine qc rfl func210 (fun u hu=>HMY.out u (EnvX.bel hu)) hw ?_
 refine qo rfl hw ?_
 refine enP fun u3 EX2=>?_
 go_upto_region 3 with (fail)
 refine rgQ [0,1,2,3] [4,5] EX2 rfl fun hw=>?_
 refine qf rfl hw ?_
 refine ql rfl mH trivial hw ?_
 refine qv rfl (fun u hu=>len_op underlying74 HN63.out.1 u rfl) hw ?_
 refine qv (v:= .int .u64 ((n1:Nat):Int)) rfl (fun u hu=>conv_u64_op u CN1.out rfl) hw ?_
 refine wpG_nil<|qr (R:=FreshR 5 1 1 ((putL n1 1).map u8v)) rfl func113 (fun u hu=>by have h:=callsR_fresh (HPT.out n1 1 (by have:=HN3.out.1;omega) (by decide) u);rw[putL_len]at h;exact h) ?_
 rintro x0 N0 hF hf he5
 have HF0:=hD hF
 have HN0:=hD hf
 clear hF
 clear hf
 refine phE [5] [] he5 fun hw=>?_
 refine qo rfl hw ?_
 refine enP fun u8 EX7=>?_
 have HFX:Hid (FreshY (insB r.ins 0) x0 N0):=by
  have e:insB r.ins 0=putL n1 1:=by rw[putL_oneN (by have:=HN3.out.1;omega)];unfold insB;rw[HL.out.1];rfl
  show FreshY _ _ _
  rw[e]
  unfold FreshY
  rw[putL_len]
  exact HF0.out
 clear HF0
 go_upto_region 4 with (fail)
 refine rgQ [0,1,2,3] [] EX7 rfl fun hw=>?_
 refine qf rfl hw ?_
 refine ql rfl (mR mH) trivial hw ?_
 refine qv rfl (fun u hu=>len_op underlying74 HN63.out.1 u rfl) hw ?_
 refine qo rfl hw ?_
 refine enP fun u11 EX10=>?_
 have HIN:Hid (BInv w [(w.heap.size,oc (txA ⟨r,A1,n1,c1,A2,n2,c2⟩) 77)] (insB r.ins 0) x0 u11):=⟨N0,HFX.out,HN0.out,EX10.out⟩
 clear EX10 E1 HFX HN0
 go_upto_region 5 with (fail)
 go_loopw [4,20] (fun v iv u=> ∃i:Nat,i≤n1∧iv= .int .i64 (i:Int)∧Hid (BInv w [(w.heap.size,oc (txA ⟨r,A1,n1,c1,A2,n2,c2⟩) 77)] (insB r.ins i) v u)) (fun _ iv _=>n1- (intOf iv).toNat)
 case atStart=>exact⟨0,by omega,rfl,HIN⟩
 case round=>
  obtain⟨i,hi,rfl,hinv⟩:=hrel
  obtain⟨N,hF,hN,hE⟩:=hinv.out
  have HF:=hD hF
  have HN:=hD hN
  have EK:=hD hE
  clear hinv HIN hF hN hE
  by_cases hlt:i<n1
  · have C4:Hid (decide ((i:Int)<(n1:Int))=true):=decide_eq_true (by omega)
    have HI:=hD hlt
    have hil:i<r.ins.length:=by rw[HL.out.1];exact hlt
    obtain⟨ad,rfl,-,hld⟩:=HT.out.m1.loads HT.out.o1 hil
    have HLD:=hD hld
    have hok:=HT.out.o1.get hil
    have hmem:r.ins.getD i noIn∈r.ins:=getD_mem r.ins noIn hil
    have hb:=HM4.out _ hmem
    have HSL:Hid ((insB r.ins i).length≤1000):=by have h1:(insB r.ins i).length≤1+33*r.ins.length:=insB_le HT.out.o1 i;rw[HL.out.1]at h1;have:=HN3.out.1;show _≤_;omega
    have HX:Hid (lenI (r.ins.getD i noIn)):=hok.len
    have CI:Hid (IntKind.u64.wrap (r.ins.getD i noIn).i=(((r.ins.getD i noIn).i.toNat:Nat):Int)):=by show _=_;rw[IntKind.wrap_u64];omega
    have HIB:Hid ((r.ins.getD i noIn).i.toNat<18446744073709551616):=by show _<_;omega
    have HST:Hid (insB r.ins (i+1)=insB r.ins i++(r.ins.getD i noIn).tx++putL (r.ins.getD i noIn).i.toNat 1):=by show _=_;rw[putL_one (by omega)];exact insB_step hil
    clear hld hil hok hmem hb
    generalize r.ins.getD i noIn=x at *
    generalize insB r.ins i=xs at *
    go_upto_region 5 with (fail)
    refine rgQ [0] [] EK rfl fun hw=>?_
    refine qv rfl (fun u hu=>ltZ_op u C4.out rfl rfl) hw ?_
    refine enP fun u43 EX42=>?_
    go_upto_region 6 with (fail)
    refine rgQ [0,1] [2,3] EX42 rfl fun hw=>?_
    refine qv rfl (fun u hu=>idxSl_op underlying74 aggIn.size HI.out u rfl rfl) hw ?_
    refine qv rfl (fun u hu=>load_any_op u (HLD.out u (nl hu)).1 rfl) hw ?_
    refine wpG_nil<|qn rfl (new_in _) fun gi HG6 he45=>?_
    change lexH _ _ _ _ _ _ ((gi,oc (inA noIn) 133)::(N++((w.heap.size,oc (txA ⟨r,some ad,n1,c1,A2,n2,c2⟩) 77)::[])))
    refine(sh rfl HG6 (infoIn _ (inA_size HX.out)) ((inA_size' (Nat.zero_le _)).trans (inA_size HX.out).symm) (inA_one _) ?_)
    refine fun _=>enL fun u48 EX47=>?_
    have HNG:Hid (∀y∈N,gi≠y.1):=fun y hy e=>HG6.out.2 y (mL hy) e.symm
    have HTG:Hid (w.heap.size≠gi):=HG6.out.2 (w.heap.size,oc (txA ⟨r,some ad,n1,c1,A2,n2,c2⟩) 77) (mR mH)
    go_upto_region 7 with (fail)
    refine rgQ [0,1,2] [3,4] EX47 rfl fun hw=>?_
    refine qw 2 hw ?_
    refine qv (v:= .slice (some ⟨gi,0,none⟩) 32 32) rfl (fun u hu=>sliceArr_op u rfl) hw ?_
    refine wpG_nil<|(hOp_own (gd:=none) (R:=GrownB w (xs++x.tx) [(gi,oc (inA x) 133),(w.heap.size,oc (txA ⟨r,some ad,n1,c1,A2,n2,c2⟩) 77)]) rfl rfl rfl rfl (fun u hu=>appB_op (m:=32) [(gi,oc (inA x) 133),(w.heap.size,oc (txA ⟨r,some ad,n1,c1,A2,n2,c2⟩) 77)] hu HX.out HF.out (fun y hy=>⟨mT (mL hy),(HN.out y hy).1⟩) (src_box hu mH (src_in_tx HX.out)) (mA ⟨⟨mH,HNG.out⟩,fun z hz=>⟨mT (mR hz),fun y hy=>(HN.out y hy).2 z hz⟩⟩) (by have:=HSL.out;omega) rfl rfl) ?_)
    rintro x7 M' ⟨N7,rfl,hF9,hn9⟩ he50;intro K' hK';go_big_quiet_op;go_big_quiet_on
    have HN7F:=hD hF9
    have HN7N:=hD hn9
    clear hF9 hn9
    refine phE [4] [] he50 fun hw=>?_
    refine qo rfl hw ?_
    refine enP fun u53 EX52=>?_
    have HS2:Hid ((xs++x.tx).length≤1100):=by show _≤_;rw[lA];have:=HSL.out;have h2:x.tx.length=32:=HX.out;omega
    go_upto_region 8 with (fail)
    refine rgQ [0,1,2,3] [4,5,6] EX52 rfl fun hw=>?_
    refine qw 2 hw ?_
    refine ql rfl (mR mH) HX.out hw ?_
    refine qv (v:= .int .u64 ((x.i.toNat:Nat):Int)) rfl (fun u hu=>conv_u64_op u CI.out rfl) hw ?_
    refine wpG_nil<|qr (R:=FreshR 5 1 1 ((putL x.i.toNat 1).map u8v)) rfl func113 (fun u hu=>by have h:=callsR_fresh (HPT.out x.i.toNat 1 HIB.out (by decide) u);rw[putL_len]at h;exact h) ?_
    rintro xp Np hF hf he55
    obtain⟨g8,cap8,cur8,rfl,rfl,hcp⟩|⟨_,_,h0,_⟩:=hF
    case inr=>cases h0
    have HC_g8:=hD hcp
    clear hcp
    clear hf
    change lexH _ _ _ _ _ _ ((g8,oc cur8 5)::(N7++((gi,oc (inA x) 133)::((w.heap.size,oc (txA ⟨r,some ad,n1,c1,A2,n2,c2⟩) 77)::[]))))
    refine(hOp_own (gd:=none) (R:=GrownB w ((xs++x.tx)++putL x.i.toNat 1) [(w.heap.size,oc (txA ⟨r,some ad,n1,c1,A2,n2,c2⟩) 77)]) rfl rfl rfl rfl (fun u hu=>appB_op (m:=1) [(w.heap.size,oc (txA ⟨r,some ad,n1,c1,A2,n2,c2⟩) 77)] hu (putL_len _ _) HN7F.out (fun y hy=>⟨mT (mL hy),(HN7N.out y hy).1⟩) (src_fresh hu mH (putL_len _ _) HC_g8.out.2.2.2) (fun z hz=>⟨mT (mR (mT hz)),fun y hy=>(HN7N.out y hy).2 z (mT hz)⟩) (by have:=HS2.out;omega) rfl rfl) ?_)
    rintro x8 M' ⟨N8,rfl,hF9,hn9⟩ he56;intro K' hK';go_big_quiet_op;go_big_quiet_on
    have HN8F:=hD hF9
    have HN8N:=hD hn9
    clear hF9 hn9
    refine phE [6] [] he56 fun hw=>?_
    refine qo rfl hw ?_
    refine enP fun u59 EX58=>?_
    have HNX:Hid (BInv w [(w.heap.size,oc (txA ⟨r,some ad,n1,c1,A2,n2,c2⟩) 77)] (insB r.ins (i+1)) x8 u59):=⟨N8,by rw[HST.out];exact HN8F.out,HN8N.out,EX58.out⟩
    have hin:=HI.out
    have hn3:=HN3.out.1
    go_wp2
    go_roundw
    case rel=>exact⟨i+1,by omega,by go_num,HNX⟩
    case measure=>simp[intOf];omega
  · obtain rfl:i=n1:=by omega
    have C4:Hid (decide ((i:Int)<(i:Int))=false):=decide_eq_false (by omega)
    have HS0:Hid ((insB r.ins i).length≤1000):=by have h1:(insB r.ins i).length≤1+33*r.ins.length:=insB_le HT.out.o1 i;rw[HL.out.1]at h1;have:=HN3.out.1;show _≤_;omega
    have HO0:Hid (insB r.ins i++putL n2 1=outsB r 0):=by
     show _=_
     have h1:=HL.out.1
     have h2:=HL.out.2
     rw[putL_oneN (by have:=HN3.out.2;omega)]
     unfold outsB
     rw[h1,h2,List.take_zero,List.map_nil,List.flatten_nil,List.append_nil]
    generalize insB r.ins i=xs at *
    go_upto_region 5 with (fail)
    refine rgQ [0] [] EK rfl fun hw=>?_
    refine qv rfl (fun u hu=>ltZ_op u C4.out rfl rfl) hw ?_
    refine enP fun u143 EX142=>?_
    go_upto_region 10 with (fail)
    refine rgQ [0,1,2,3,4] [5,6,7] EX142 rfl fun hw=>?_
    refine qw 2 hw ?_
    refine ql rfl (mR mH) trivial hw ?_
    refine qv rfl (fun u hu=>len_op underlying75 HN63.out.2 u rfl) hw ?_
    refine qv (v:= .int .u64 ((n2:Nat):Int)) rfl (fun u hu=>conv_u64_op u CN2.out rfl) hw ?_
    refine wpG_nil<|qr (R:=FreshR 5 1 1 ((putL n2 1).map u8v)) rfl func113 (fun u hu=>by have h:=callsR_fresh (HPT.out n2 1 (by have:=HN3.out.2;omega) (by decide) u);rw[putL_len]at h;exact h) ?_
    rintro xp Np hF hf he145
    obtain⟨g10,cap10,cur10,rfl,rfl,hcp⟩|⟨_,_,h0,_⟩:=hF
    case inr=>cases h0
    have HC_g10:=hD hcp
    clear hcp
    clear hf
    change lexH _ _ _ _ _ _ ((g10,oc cur10 5)::(N++((w.heap.size,oc (txA ⟨r,A1,i,c1,A2,n2,c2⟩) 77)::[])))
    refine(hOp_own (gd:=none) (R:=GrownB w (xs++putL n2 1) [(w.heap.size,oc (txA ⟨r,A1,i,c1,A2,n2,c2⟩) 77)]) rfl rfl rfl rfl (fun u hu=>appB_op (m:=1) [(w.heap.size,oc (txA ⟨r,A1,i,c1,A2,n2,c2⟩) 77)] hu (putL_len _ _) HF.out (fun y hy=>⟨mT (mL hy),(HN.out y hy).1⟩) (src_fresh hu mH (putL_len _ _) HC_g10.out.2.2.2) (fun z hz=>⟨mT (mR hz),fun y hy=>(HN.out y hy).2 z hz⟩) (by have:=HS0.out;omega) rfl rfl) ?_)
    rintro x10 M' ⟨N10,rfl,hF9,hn9⟩ he146;intro K' hK';go_big_quiet_op;go_big_quiet_on
    have HN10F:=hD hF9
    have HN10N:=hD hn9
    clear hF9 hn9
    refine phE [7] [] he146 fun hw=>?_
    refine qo rfl hw ?_
    refine enP fun u149 EX148=>?_
    go_upto_region 11 with (fail)
    refine rgQ [0,1,2,3] [] EX148 rfl fun hw=>?_
    refine qf rfl hw ?_
    refine ql rfl (mR mH) trivial hw ?_
    refine qv rfl (fun u hu=>len_op underlying75 HN63.out.2 u rfl) hw ?_
    refine qo rfl hw ?_
    refine enP fun u152 EX151=>?_
    have HIN:Hid (BInv w [(w.heap.size,oc (txA ⟨r,A1,i,c1,A2,n2,c2⟩) 77)] (outsB r 0) x10 u152):=⟨N10,by rw[←HO0.out];exact HN10F.out,HN10N.out,EX151.out⟩
    clear EX151 EK HN10F HN10N HF HN
    go_upto_region 12 with (fail)
    go_loopw [4,45] (fun v iv u=> ∃j:Nat,j≤n2∧iv= .int .i64 (j:Int)∧Hid (BInv w [(w.heap.size,oc (txA ⟨r,A1,i,c1,A2,n2,c2⟩) 77)] (outsB r j) v u)) (fun _ iv _=>n2- (intOf iv).toNat)
    case atStart=>exact⟨0,by omega,rfl,HIN⟩
    case round=>
     obtain⟨j,hj,rfl,hinv⟩:=hrel
     obtain⟨N,hF,hN,hE⟩:=hinv.out
     have HF:=hD hF
     have HN:=hD hN
     have EK:=hD hE
     clear hinv HIN hF hN hE
     by_cases hlt:j<n2
     · have C12:Hid (decide ((j:Int)<(n2:Int))=true):=decide_eq_true (by omega)
       have HJ:=hD hlt
       have hjl:j<r.outs.length:=by rw[HL.out.2];exact hlt
       obtain⟨ad,rfl,-,hld⟩:=HT.out.m2.loads hjl
       have HLD:=hD hld
       have hmem:r.outs.getD j noOut∈r.outs:=getD_mem r.outs noOut hjl
       have hb:=HM5.out _ hmem
       have HSL:Hid ((outsB r j).length≤1000):=by have h1:(outsB r j).length≤2+33*r.ins.length+7*r.outs.length:=outsB_le HOK.out j;rw[HL.out.1,HL.out.2]at h1;have:=HN3.out;show _≤_;omega
       have CT:Hid (IntKind.u64.wrap (r.outs.getD j noOut).tw=(((r.outs.getD j noOut).tw.toNat:Nat):Int)):=by show _=_;rw[IntKind.wrap_u64];omega
       have CV:Hid (IntKind.u64.wrap (r.outs.getD j noOut).v=(((r.outs.getD j noOut).v.toNat:Nat):Int)):=by show _=_;rw[IntKind.wrap_u64];omega
       have HB2:Hid ((r.outs.getD j noOut).v.toNat<18446744073709551616∧(r.outs.getD j noOut).tw.toNat<18446744073709551616):=by show _∧_;omega
       have HST:Hid (outsB r (j+1)=outsB r j++putL (r.outs.getD j noOut).v.toNat 6++putL (r.outs.getD j noOut).tw.toNat 1):=by show _=_;rw[putL_one (by omega)];exact outsB_step hjl
       clear hld hjl hmem hb
       generalize r.outs.getD j noOut=x at *
       generalize outsB r j=xs at *
       go_upto_region 12 with (fail)
       refine rgQ [0] [] EK rfl fun hw=>?_
       refine qv rfl (fun u hu=>ltZ_op u C12.out rfl rfl) hw ?_
       refine enP fun u243 EX242=>?_
       go_upto_region 13 with (fail)
       refine rgQ [0,1] [2,3] EX242 rfl fun hw=>?_
       refine qv rfl (fun u hu=>idxSl_op underlying75 aggOut.size HJ.out u rfl rfl) hw ?_
       refine qv rfl (fun u hu=>load_any_op u (HLD.out u (nl hu)).1 rfl) hw ?_
       refine wpG_nil<|qn rfl (new_out _) fun gi HG6 he245=>?_
       change lexH _ _ _ _ _ _ ((gi,oc (outA noOut) 135)::(N++((w.heap.size,oc (txA ⟨r,A1,i,c1,some ad,n2,c2⟩) 77)::[])))
       refine(sh (cs:=outA x) rfl HG6 (infoOut _ (outA_size _)) rfl (outA_one _) ?_)
       refine fun _=>enL fun u248 EX247=>?_
       have HNG:Hid (∀y∈N,gi≠y.1):=fun y hy e=>HG6.out.2 y (mL hy) e.symm
       go_upto_region 14 with (fail)
       refine rgQ [0,1,2,3] [4,5,6] EX247 rfl fun hw=>?_
       refine qw 2 hw ?_
       refine ql rfl mH trivial hw ?_
       refine qv (v:= .int .u64 ((x.v.toNat:Nat):Int)) rfl (fun u hu=>conv_u64_op u CV.out rfl) hw ?_
       refine wpG_nil<|qr (R:=FreshR 5 1 6 ((putL x.v.toNat 6).map u8v)) rfl func113 (fun u hu=>by have h:=callsR_fresh (HPT.out x.v.toNat 6 HB2.out.1 (by decide) u);rw[putL_len]at h;exact h) ?_
       rintro xp Np hF hf he250
       obtain⟨g14,cap14,cur14,rfl,rfl,hcp⟩|⟨_,_,h0,_⟩:=hF
       case inr=>cases h0
       have HC_g14:=hD hcp
       clear hcp
       clear hf
       change lexH _ _ _ _ _ _ ((g14,oc cur14 5)::((gi,oc (outA x) 135)::(N++((w.heap.size,oc (txA ⟨r,A1,i,c1,some ad,n2,c2⟩) 77)::[]))))
       refine(hOp_own (gd:=none) (R:=GrownB w (xs++putL x.v.toNat 6) [(gi,oc (outA x) 135),(w.heap.size,oc (txA ⟨r,A1,i,c1,some ad,n2,c2⟩) 77)]) rfl rfl rfl rfl (fun u hu=>appB_op (m:=6) [(gi,oc (outA x) 135),(w.heap.size,oc (txA ⟨r,A1,i,c1,some ad,n2,c2⟩) 77)] hu (putL_len _ _) HF.out (fun y hy=>⟨mT (mT (mL hy)),(HN.out y hy).1⟩) (src_fresh hu mH (putL_len _ _) HC_g14.out.2.2.2) (mA ⟨⟨mT mH,HNG.out⟩,fun z hz=>⟨mT (mT (mR hz)),fun y hy=>(HN.out y hy).2 z hz⟩⟩) (by have:=HSL.out;omega) rfl rfl) ?_)
       rintro x14 M' ⟨N14,rfl,hF9,hn9⟩ he251;intro K' hK';go_big_quiet_op;go_big_quiet_on
       have HN14F:=hD hF9
       have HN14N:=hD hn9
       clear hF9 hn9
       refine phE [6] [] he251 fun hw=>?_
       refine qo rfl hw ?_
       refine enP fun u254 EX253=>?_
       have HS2:Hid ((xs++putL x.v.toNat 6).length≤1100):=by show _≤_;rw[lA,putL_len];have:=HSL.out;omega
       go_upto_region 15 with (fail)
       refine rgQ [0,1,2,3] [4,5,6] EX253 rfl fun hw=>?_
       refine qw 2 hw ?_
       refine ql rfl (mR mH) trivial hw ?_
       refine qv (v:= .int .u64 ((x.tw.toNat:Nat):Int)) rfl (fun u hu=>conv_u64_op u CT.out rfl) hw ?_
       refine wpG_nil<|qr (R:=FreshR 5 1 1 ((putL x.tw.toNat 1).map u8v)) rfl func113 (fun u hu=>by have h:=callsR_fresh (HPT.out x.tw.toNat 1 HB2.out.2 (by decide) u);rw[putL_len]at h;exact h) ?_
       rintro xp Np hF hf he256
       obtain⟨g15,cap15,cur15,rfl,rfl,hcp⟩|⟨_,_,h0,_⟩:=hF
       case inr=>cases h0
       have HC_g15:=hD hcp
       clear hcp
       clear hf
       change lexH _ _ _ _ _ _ ((g15,oc cur15 5)::(N14++((gi,oc (outA x) 135)::((w.heap.size,oc (txA ⟨r,A1,i,c1,some ad,n2,c2⟩) 77)::[]))))
       refine(hOp_own (gd:=none) (R:=GrownB w ((xs++putL x.v.toNat 6)++putL x.tw.toNat 1) [(w.heap.size,oc (txA ⟨r,A1,i,c1,some ad,n2,c2⟩) 77)]) rfl rfl rfl rfl (fun u hu=>appB_op (m:=1) [(w.heap.size,oc (txA ⟨r,A1,i,c1,some ad,n2,c2⟩) 77)] hu (putL_len _ _) HN14F.out (fun y hy=>⟨mT (mL hy),(HN14N.out y hy).1⟩) (src_fresh hu mH (putL_len _ _) HC_g15.out.2.2.2) (fun z hz=>⟨mT (mR (mT hz)),fun y hy=>(HN14N.out y hy).2 z (mT hz)⟩) (by have:=HS2.out;omega) rfl rfl) ?_)
       rintro x15 M' ⟨N15,rfl,hF9,hn9⟩ he257;intro K' hK';go_big_quiet_op;go_big_quiet_on
       have HN15F:=hD hF9
       have HN15N:=hD hn9
       clear hF9 hn9
       refine phE [6] [] he257 fun hw=>?_
       refine qo rfl hw ?_
       refine enP fun u260 EX259=>?_
       have HNX:Hid (BInv w [(w.heap.size,oc (txA ⟨r,A1,i,c1,some ad,n2,c2⟩) 77)] (outsB r (j+1)) x15 u260):=⟨N15,by rw[HST.out];exact HN15F.out,HN15N.out,EX259.out⟩
       have hjn:=HJ.out
       have hn3:=HN3.out.2
       go_wp2
       go_roundw
       case rel=>exact⟨j+1,by omega,by go_num,HNX⟩
       case measure=>simp[intOf];omega
     · obtain rfl:j=n2:=by omega
       have C12:Hid (decide ((j:Int)<(j:Int))=false):=decide_eq_false (by omega)
       have hall:outsB r j=bodyX r:=by rw[←HL.out.2];exact outsB_all r
       rw[hall]at HF
       clear hall
       go_upto_region 12 with (fail)
       refine rgQ [0] [] EK rfl fun hw=>?_
       refine qv rfl (fun u hu=>ltZ_op u C12.out rfl rfl) hw ?_
       refine enP fun u443 EX442=>?_
       go_upto_region 17 with (fail)
       refine rgQ [0,1,2] [] EX442 rfl fun hw=>?_
       refine qw 3 hw ?_
       refine enP fun u446 EX445=>?_
       have HO:=hD (FreshY.own (w:=u446) (B:=w.heap.size) HF.out (fun y hy=>⟨(HN.out y hy).1,EnvX.box EX445.out _ _ (mL hy)⟩))
       have HBE:=hD (EnvX.bel EX445.out)
       go_wp2
       go_returns
       exact⟨⟨_,rfl,HO.out⟩,HBE.out⟩
theorem putP_any(t:TxM)(w:World)(ht:TxOk w t):
  Calls Tryz.prog 184 #[txV t] w fun e w'=>(∃v,e= .returned (.tuple #[v, .bool (putX t.r).2])∧OwnB w' w.heap.size v (putX t.r).1)∧Below w.heap.size w w':=by
 obtain⟨r,A1,n1,c1,A2,n2,c2⟩:=t
 cases k1:mayX r with
 |false=>exact pputX_no r A1 n1 c1 A2 n2 c2 w ht k1
 |true=>exact pputX_yes r A1 n1 c1 A2 n2 c2 w ht k1
open Go Go.RowKit
section
variable {P:Program}{ops:Array Oper}{Q:Exit→Act→World→Prop}{md:Region.Mode}{n l:Nat}
theorem oper_in{o:Oper}(hnd: ∀c,o.op≠ .defer c){a:Act}{w:World}{K:Act→World→Prop}(h:o.wp P a w K Q):o.wpIn (Fence.wide.inRound l) n P a w K Q:=by
 refine⟨fun _ _=>trivial,?_⟩
 rw[Oper.semAt_plain _ _ _ hnd]
 unfold Oper.wp at h
 have hd:(Fence.wide.inRound l).depth.isSome=true→1≤n:=fun h=>by cases h
 generalize (execOp a.eval o).run P w=r at *
 cases r with
 |ok x w'=>
  cases x<;>simp only[Oper.upon,Oper.uponIn]at h ⊢
  case value=>exact h
  case skip=>exact h
  case defer=>exact h
  case enter=>exact⟨hd,(CallsIn.inRound l (callsIn_wide.2 h)).mono (fun e w'' he=>by cases e<;>exact he)⟩
  case row=>exact⟨hd,fun c cs _=>let ⟨v,w',r,s⟩:=h c cs;⟨v,w',r,stepsIn_wide.2 s⟩⟩
 |halt x w'=>cases x<;>simp only[Oper.upon,Oper.uponIn]at h ⊢ <;>exact h
def noDefer(ops:Array Oper):Bool:=ops.all fun o=>match o.op with| .defer _=>false|_=>true
theorem noDefer_spec{ops:Array Oper}(h:noDefer ops=true){i:Nat}{o:Oper}(ho:ops[i]?=some o): ∀c,o.op≠ .defer c:=by
 intro c hc
 have:=Array.all_eq_true_iff_forall_mem.1 h o (Array.mem_of_getElem? ho)
 rw[hc]at this
 cases this
end
open Go.RowKit Go.Shelf
def KpB(n₀ Bb:Nat)(W W':World):Prop:=Below n₀ W W'∧(∀o,W.heap[Bb]?=some o→W'.heap[Bb]?=some o)
theorem KpB.trans{n₀ Bb:Nat}{A B C:World}(h:KpB n₀ Bb A B)(k:KpB n₀ Bb B C):KpB n₀ Bb A C:=⟨h.1.trans k.1,fun o ho=>k.2 o (h.2 o ho)⟩
theorem KpB.put{n₀ Bb:Nat}{w:World}(hn:n₀≤w.heap.size)(hB:Bb<w.heap.size)(W:World)(l:Nat)(o o':Obj)(hl:w.heap.size≤l)(h:W.heap[l]?=some o)(h1:o.isCells=false)(h2:o.isWalk=false):KpB n₀ Bb W (W.putObj l o'):=
 ⟨belowK_b hn W l o o' hl h h1 h2,fun u hu=>(World.putObj_heap_other (by omega)).trans hu⟩
theorem keepsOthers_below{W W':World}(h:Below W.heap.size W W'):KeepsOthers W W':=⟨h.size,fun k o hk _=>(h.block k (Array.getElem?_eq_some_iff.1 hk).1).trans hk⟩
theorem KeepsOthers.setRow'{w:World}{g:Nat}{cs cs':Array Value}{t:TypeId}(h:Row w g t cs):KeepsOthers w (w.setRow g cs'):=by
 refine⟨by simp[World.setRow],fun k o hk ho=>?_⟩
 by_cases e:k=g
 · subst e
   rw[show w.heap[k]?=some _ from h]at hk
   cases hk
   cases ho
 · exact(setRow_other w g k cs' e).trans hk
theorem listIn_round{P:Program}{ops:Array Oper}{Q:Exit→Act→World→Prop}{n l:Nat}(hno: ¬LetsOut Q): ∀(L:List Oper)(a:Act)(w:World),(∀o∈L,∀c,o.op≠ .defer c)→wpList P ops Q L a w→wpListIn (Fence.wide.inRound l) n P ops Q L a w
 |[],_,_,_,h=>h
 |o::L,a,w,hnd,h=>by
  unfold wpList at h
  unfold wpListIn
  by_cases hw:Region.wanted o (yielded ops a.tmps)=true
  · simp only[hw,if_true]at h ⊢
    rcases h with h|⟨_,h⟩
    · exact Oper.wpIn_mono (fun a' w' h3=>listIn_round hno L a' w' (fun o ho=>hnd o (mT ho)) h3) (oper_in (hnd o (List.mem_cons_self ..)) h)
    · exact absurd h hno
  · simp only[hw]at h ⊢
    exact⟨fun _ _=>trivial,listIn_round hno L _ w (fun o ho=>hnd o (mT ho)) h⟩
theorem region_round_list{P:Program}{Q:Exit→Act→World→Prop}{n l id:Nat}{a:Act}{w:World}{L:List Oper}(hnd:noDefer L.toArray=true)(hno: ¬LetsOut Q)(h:wpList P L.toArray Q L a w):(Code.region id L.toArray false).wpIn (Fence.wide.inRound l) n P Q a w:=
 wpIn_region_lit (listIn_round hno L a w (fun o ho=>by
  obtain⟨i,hi,e⟩:=List.getElem_of_mem ho
  exact noDefer_spec hnd (i:=i) (o:=o) (by rw[List.getElem?_toArray,gE hi,e])) h)
theorem envx_turn{w W W':World}{M:List (Nat × Obj)}{B:Nat}{row:Option Nat}(h:EnvX w W M)(hM: ∀x∈M,x.2.isCells=true)(hB:w.heap.size≤B)(hg:W.grownBy W' row)(hr: ∀r,row=some r→B≤r∧ ∃o:Obj,W.heap[r]?=some o∧o.isCells=false):EnvX w W' M:=by
 refine⟨h.bel.trans (below_of_grown hg (fun g e=>Nat.le_trans hB (hr g e).1) h.bel.size),fun g o hm=>?_⟩
 have hh:=h.box g o hm
 refine(hg.block g (h.lt hm) (fun e=>?_)).trans hh
 obtain⟨_,o',ho',hc⟩:=hr g e.symm
 rw[hh]at ho'
 cases ho'
 have:=hM _ hm
 rw[this]at hc
 cases hc
theorem results_row_cell{P:Program}{fn:Func}{p q:Tmp}{ty ty':TypeId}(h:fn.results= #[.cell p ty, .cell q ty'])(tmps:Array Value)(w:World)(g g':Nat)(t:TypeId)(cs:Array Value)(fr:Nat × Nat)(d:TypeDesc)
  (hp:tmps.getD p undef= .pointer (some ⟨g,0,none⟩)) (hq:tmps.getD q undef= .pointer (some ⟨g',0,none⟩)) (v:Value) (hv:(loadVar ty' ⟨g',0,none⟩).run P w= .ok v w) (hg:w.heap[g]?=some (.cells cs t fr))
  (hu:P.underlying ty=some d) (hd:(match d with| .struct _| .array _ _=>true|_=>false)=true) (hi:(P.info? ty).map (·.size)=some cs.size):
  (results fn tmps).run P w= .ok (.tuple #[.agg cs,v]) w:=by
 have hp':tmps[p]?.getD undef= .pointer (some ⟨g,0,none⟩):=by simpa using hp
 have hq':tmps[q]?.getD undef= .pointer (some ⟨g',0,none⟩):=by simpa using hq
 simp[results,h,hp',hq',asAddr,run_loadVar_row w g t ty cs fr d hg hu hd hi,hv]
theorem sameP_any(s t:TxM)(w:World)(hs:TxOk w s)(ht:TxOk w t):
  Rz 84 #[txV s,txV t] w (.bool (sameX s.r t.r)):=by
 unfold Rz
 obtain⟨b1,hb1⟩: ∃b1,decide (s.r.ins=t.r.ins)=b1:=⟨_,rfl⟩
 obtain⟨b2,hb2⟩: ∃b2,decide (s.r.outs=t.r.outs)=b2:=⟨_,rfl⟩
 have HE1:Hid (Rb w 134 #[.slice s.A1 s.n1 s.c1, .slice t.A1 t.n1 t.c1] (.bool b1)):=fun u hu=>by
  have h:=eqIns_any s.r.ins t.r.ins s.A1 t.A1 s.n1 s.c1 t.n1 t.c1 u hs.l1 ht.l1 hs.b1.1 hs.b1.2 ht.b1.1 ht.b1.2 hs.o1 ht.o1 (hs.m1.up hu) (ht.m1.up hu)
  rwa[hb1]at h
 have HE2:Hid (Rb w 135 #[.slice s.A2 s.n2 s.c2, .slice t.A2 t.n2 t.c2] (.bool b2)):=fun u hu=>by
  have h:=eqOuts_any s.r.outs t.r.outs s.A2 t.A2 s.n2 s.c2 t.n2 t.c2 u hs.l2 ht.l2 hs.b2.1 hs.b2.2 ht.b2.1 ht.b2.2 hs.o2 ht.o2 (hs.m2.up hu) (ht.m2.up hu)
  rwa[hb2]at h
 have HS:Hid (sameX s.r t.r=(b1&& b2)):=by
  show _=_
  rw[←hb1,←hb2]
  unfold sameX
  obtain⟨⟨x1,x2⟩,_,_,_,_,_,_⟩:=s
  obtain⟨⟨y1,y2⟩,_,_,_,_,_,_⟩:=t
  simp only[TxR.mk.injEq,Bool.decide_and]
 have E1:Hid (EnvX w ((w.alloc (.cells (txA s) 77)).alloc (.cells (txA t) 77)) [(w.heap.size+1,oc (txA t) 77),(w.heap.size,oc (txA s) 77)]):=(EnvX.start w).two _ _
 clear hs ht hb1 hb2
 cases b1 with
 |false=>
  have HF:Hid (sameX s.r t.r=false):=HS.out
  clear HS HE2
  unfold txV
  go_enter func84,ntmps84
  go_upto_region 1 with (fail)
  generalize (w.alloc (.cells (txA s) 77)).alloc (.cells (txA t) 77)=W at *
  refine rgQ [0,1,2,3,4,5,6,7,8,9,10,11,12] [] E1 rfl fun hw=>?_
  refine qf rfl hw ?_
  refine ql rfl (mT mH) trivial hw ?_
  refine qf rfl hw ?_
  refine ql rfl mH trivial hw ?_
  refine qc rfl func134 (fun u hu=>HE1.out u (EnvX.bel hu)) hw ?_
  refine qw 8 hw ?_
  refine enP fun u3 EX2=>?_
  have HBE:=hD (EnvX.bel EX2.out)
  go_wp2
  go_ret
  exact⟨by rw[HF.out];first|done|rfl,HBE.out⟩
 | true=>
  cases b2 with
  |false=>
   have HF:Hid (sameX s.r t.r=false):=HS.out
   clear HS
   unfold txV
   go_enter func84,ntmps84
   go_upto_region 1 with (fail)
   generalize (w.alloc (.cells (txA s) 77)).alloc (.cells (txA t) 77)=W at *
   refine rgQ [0,1,2,3,4,5,6,7,8,9,10,11,12] [] E1 rfl fun hw=>?_
   refine qf rfl hw ?_
   refine ql rfl (mT mH) trivial hw ?_
   refine qf rfl hw ?_
   refine ql rfl mH trivial hw ?_
   refine qc rfl func134 (fun u hu=>HE1.out u (EnvX.bel hu)) hw ?_
   refine qw 2 hw ?_
   refine ql rfl (mT mH) trivial hw ?_
   refine qf rfl hw ?_
   refine ql rfl mH trivial hw ?_
   refine qc rfl func135 (fun u hu=>HE2.out u (EnvX.bel hu)) hw ?_
   refine qw 2 hw ?_
   refine enP fun u3 EX2=>?_
   have HBE:=hD (EnvX.bel EX2.out)
   go_wp2
   go_ret
   exact⟨by rw[HF.out];first|done|rfl,HBE.out⟩
  |true=>
   have HF:Hid (sameX s.r t.r=true):=HS.out
   clear HS
   unfold txV
   go_enter func84,ntmps84
   go_upto_region 1 with (fail)
   generalize (w.alloc (.cells (txA s) 77)).alloc (.cells (txA t) 77)=W at *
   refine rgQ [0,1,2,3,4,5,6,7,8,9,10,11,12] [] E1 rfl fun hw=>?_
   refine qf rfl hw ?_
   refine ql rfl (mT mH) trivial hw ?_
   refine qf rfl hw ?_
   refine ql rfl mH trivial hw ?_
   refine qc rfl func134 (fun u hu=>HE1.out u (EnvX.bel hu)) hw ?_
   refine qw 2 hw ?_
   refine ql rfl (mT mH) trivial hw ?_
   refine qf rfl hw ?_
   refine ql rfl mH trivial hw ?_
   refine qc rfl func135 (fun u hu=>HE2.out u (EnvX.bel hu)) hw ?_
   refine qw 2 hw ?_
   refine enP fun u3 EX2=>?_
   have HBE:=hD (EnvX.bel EX2.out)
   go_wp2
   go_ret
   exact⟨by rw[HF.out];first|done|rfl,HBE.out⟩
theorem blen64_any(x:Int)(w:World)(h0:0≤x)(h1:x<16777216):
   Calls Tryz.prog 224 #[.int .u64 x] w fun e w'=>e= .returned (.int .i64 (Lib.bitLen x.toNat))∧w'=w:=by
 have n1: ¬4294967296≤x:=by omega
 have hw:x≤18446744073709551615:=by omega
 by_cases hA:x<256
 · have n2: ¬65536≤x:=by omega
   have n3: ¬256≤x:=by omega
   have hA2:x≤255:=by omega
   have l:=Lib.bitLen_le8' x (by omega) (by omega)
   have HE:=hD (Lib.len8_of x (by omega) (by omega))
   go_enter func224,ntmps224
   go_wp2
   go_ret
   refine⟨congrArg Ending.returned (congrArg (Value.int IntKind.i64) ?_),rfl⟩
   rw[HE.out]
   unfold wrap64
   omega
 · by_cases hB:x<65536
   · have n2: ¬65536≤x:=by omega
     have n3:256≤x:=by omega
     have q0:0≤x/256:=by omega
     have q1:x/256≤255:=by omega
     have HE:=hD (Lib.len8_of (x/256) q0 q1)
     go_enter func224,ntmps224
     go_wp2
     go_ret
     refine⟨congrArg Ending.returned (congrArg (Value.int IntKind.i64) ?_),rfl⟩
     have e:(x/256).toNat=x.toNat/256:=by omega
     have l:=Lib.bitLen_le8' (x/256) (by omega) (by omega)
     have s:=Lib.bitLen_shift8 x.toNat (by omega) (by omega)
     rw[HE.out]
     rw[e]at l ⊢
     unfold wrap64
     omega
   · have n2:65536≤x:=by omega
     have q0:0≤x/65536:=by omega
     have q1:x/65536≤255:=by omega
     have HE:=hD (Lib.len8_of (x/65536) q0 q1)
     have n3: ¬256≤x/65536:=by omega
     go_enter func224,ntmps224
     go_wp2
     go_ret
     refine⟨congrArg Ending.returned (congrArg (Value.int IntKind.i64) ?_),rfl⟩
     have e:(x/65536).toNat=x.toNat/65536:=by omega
     have l:=Lib.bitLen_le8' (x/65536) (by omega) (by omega)
     have s:=Lib.bitLen_shift16 x.toNat (by omega) (by omega)
     rw[HE.out]
     rw[e]at l ⊢
     unfold wrap64
     omega
theorem blen_any(x:Int)(w:World)(h0:0≤x)(h1:x<16777216):
  Calls Tryz.prog 205 #[.int .u64 x] w fun e w'=>e= .returned (.int .i64 (Lib.bitLen x.toNat))∧w'=w:=by
 have HC:=hD (blen64_any x w h0 h1)
 go_enter func205,ntmps205
 go_wp2_with (go_at_call 224;refine HC.out.mono ?_;rintro e w' ⟨rfl,rfl⟩)
 go_ret
 exact⟨rfl,rfl⟩
theorem bitLen_pow: ∀(x:Nat),1≤x→x<2^64→ ∃e,Lib.bitLen x=e+1∧2^e≤x∧x<2*2^e:=by
 intro x
 induction x using Nat.strongRecOn with
 |_ x ih=>
  intro h1 h2
  by_cases hx:x=1
  · subst hx
    exact⟨0,by decide+kernel,by decide,by decide⟩
  · obtain⟨e,e1,e2,e3⟩:=ih (x/2) (by omega) (by omega) (by omega)
    refine⟨e+1,by rw[Lib.bitLen_half x (by omega) h2,e1];omega,?_,?_⟩
    · rw[Nat.pow_succ];omega
    · rw[Nat.pow_succ];omega
theorem half_bit{n:Nat}(h:2≤n)(hn:n≤1099511627776): ∃e,Lib.bitLen (n- 1)=e+1∧halfT n=2^e∧e<40:=by
 obtain⟨e,e1,e2,e3⟩:=bitLen_pow (n- 1) (by omega) (by omega)
 refine⟨e,e1,half_unique (by omega) (by omega),?_⟩
 rcases Nat.lt_or_ge e 40 with h|h
 · exact h
 · have:=Nat.pow_le_pow_right (n:=2) (by decide) h
   omega
theorem aggSpan:AggT 188 2:=⟨fun w=>by simp[isAgg,run_underlying underlying188],by kernel_rfl⟩
theorem aggIds2:AggT 189 64:=⟨fun w=>by simp[isAgg,run_underlying underlying189],by kernel_rfl⟩
theorem aggId:AggT 26 32:=⟨fun w=>by simp[isAgg,run_underlying underlying26],by kernel_rfl⟩
def ii(n:Nat):Value:= .int .i64 (n:Int)
def spanC(f n:Nat):List Value:=[ii f,ii (f+n)]
def cutC(f n:Nat):List Value:=[ii f,ii (f+halfT n),ii (f+halfT n),ii (f+n)]
theorem info_span:(Tryz.prog.info? 188).map (·.size)=some 2:=by kernel_rfl
theorem info_spans:(Tryz.prog.info? 190).map (·.size)=some 4:=by kernel_rfl
section
variable {a:Act}{dst:Option Tmp}{x y:Operand}{ty:TypeId}{pos:String}{after:Array Edge}{gd:Option (Nat × Bool)}
theorem conv_uint_op{m:Nat}(u:World)(hm:m<9223372036854775808)(hx:a.eval x= .int .i64 (m:Int)):
  (execOp a.eval ⟨dst, .convert 3 149 x,ty,pos,after,gd⟩).run Tryz.prog u= .ok (.value (.int .u64 (m:Int))) u:=by
 have hq:IntKind.u64.wrap (m:Int)=(m:Int):=by rw[IntKind.wrap_u64];omega
 unfold execOp
 simp only[hx]
 go_simp
theorem shl_op{e p:Nat}(u:World)(hp:2^e=p)(he:e<62)(hx:a.eval x= .int .i64 1)(hy:a.eval y= .int .i64 (e:Int)):
  (execOp a.eval ⟨dst, .binOp .shl 3 x y 3,ty,pos,after,gd⟩).run Tryz.prog u= .ok (.value (.int .i64 (p:Int))) u:=by
 have h0: ¬(e:Int)<0:=by omega
 have h1: ¬(64:Int)≤(e:Int):=by omega
 have hp2:2^e<2^62:=Nat.pow_lt_pow_right (by decide) he
 have hc:((2:Int)^e)=(p:Int):=by rw[←hp];simp
 have hq:IntKind.i64.wrap (p:Int)=(p:Int):=wrap64_in (by rw[hp]at hp2;unfold InI;omega)
 unfold execOp
 simp only[hx,hy]
 go_simp
end
theorem cut_any(f n:Nat)(w:World)(h2:2≤n)(hn:f+n≤1000000):
  Rz 174 #[.agg (spanC f n).toArray] w (.agg (cutC f n).toArray):=by
 unfold Rz
 obtain⟨e,e1,e2,e3⟩:=half_bit h2 (by omega)
 obtain⟨b1,b2,b3,-⟩:=half_spec h2
 unfold spanC cutC
 rw[e2]at b1 b2 b3 ⊢
 have HLEN:Hid (∀u,Calls Tryz.prog 205 #[.int .u64 ((n- 1:Nat):Int)] u fun en w'=>en= .returned (.int .i64 ((e+1:Nat):Int))∧Below u.heap.size u w'):=fun u=>by
  refine(blen_any ((n- 1:Nat):Int) u (by omega) (by omega)).mono ?_
  rintro en w' ⟨rfl,rfl⟩
  exact⟨by rw[Int.toNat_natCast,e1],Below.refl _ _⟩
 have q1:Hid ((f+n:Nat) - (f:Int)=(n:Int)∧(n:Int) - 1=((n- 1:Nat):Int)∧((e+1:Nat):Int) - 1=(e:Int)):=⟨by omega,by omega,by omega⟩
 have q2:Hid ((f:Int)+((2^e:Nat):Int)=((f+2^e:Nat):Int)):=by show _=_;omega
 have q3:Hid (InI (n:Int)∧InI ((n- 1:Nat):Int)∧InI (e:Int)∧InI ((f+2^e:Nat):Int)∧n- 1<9223372036854775808∧e<62):=by show _∧_;unfold InI;omega
 clear e1 e2 e3 b1 b2 b3
 generalize hp:2^e=p at *
 have HP:=hD hp
 clear hp
 have E1:Hid (EnvX w ((w.alloc (.cells #[ii f,ii (f+n)] 188)).alloc (.cells #[ii 0,ii 0,ii 0,ii 0] 190)) [(w.heap.size+1,oc #[ii 0,ii 0,ii 0,ii 0] 190),(w.heap.size,oc #[ii f,ii (f+n)] 188)]):=(EnvX.start w).two _ _
 go_enter func174,ntmps174
 go_upto_region 1 with (fail)
 change Code.wp _ _ _ _ ((w.alloc (.cells #[ii f,ii (f+n)] 188)).alloc (.cells #[ii 0,ii 0,ii 0,ii 0] 190))
 generalize (w.alloc (.cells #[ii f,ii (f+n)] 188)).alloc (.cells #[ii 0,ii 0,ii 0,ii 0] 190)=W at *
 refine rgK [0,1,2,3,4,5,6,7,8,9,10,11,12,13] 0 E1 rfl fun hw=>?_
 refine qo rfl hw ?_
 refine qv (v:=ii f) rfl (fun u hu=>load_any_op u (run_load_one oneInt u (box_cell (k:=0) hu (mT mH) rfl)) rfl) hw ?_
 refine qo rfl hw ?_
 refine qv (v:=ii (f+n)) rfl (fun u hu=>load_any_op u (run_load_one oneInt u (box_cell (k:=1) hu (mT mH) rfl)) rfl) hw ?_
 refine qo rfl hw ?_
 refine qv (v:=ii f) rfl (fun u hu=>load_any_op u (run_load_one oneInt u (box_cell (k:=0) hu (mT mH) rfl)) rfl) hw ?_
 refine qv rfl (fun u hu=>sub_op u q1.out.1 q3.out.1 rfl rfl) hw ?_
 refine qv rfl (fun u hu=>sub_op u q1.out.2.1 q3.out.2.1 rfl rfl) hw ?_
 refine qv (v:= .int .u64 ((n- 1:Nat):Int)) rfl (fun u hu=>conv_uint_op u q3.out.2.2.2.2.1 rfl) hw ?_
 refine qc rfl func205 (fun u hu=>HLEN.out u) hw ?_
 refine qv rfl (fun u hu=>sub_op u q1.out.2.2 q3.out.2.2.1 rfl rfl) hw ?_
 refine qv (v:=ii p) rfl (fun u hu=>shl_op u HP.out q3.out.2.2.2.2.2 rfl rfl) hw ?_
 refine qv (v:=ii (f+p)) rfl (fun u hu=>add_op u q2.out q3.out.2.2.2.1 rfl rfl) hw ?_
 refine qo rfl hw ?_
 refine eH fun u3 EX2=>?_
 go_upto_region 2 with (fail)
 refine rgQ [0,1,2,3,4,5,6,7,8] [9] EX2 rfl fun hw=>?_
 refine qo rfl hw ?_
 refine qv (v:=ii f) rfl (fun u hu=>load_any_op u (run_load_one oneInt u (box_cell (k:=0) hu (mT mH) rfl)) rfl) hw ?_
 refine qo rfl hw ?_
 refine qv (v:= .agg #[ii f,ii (f+p)]) rfl (fun u hu=>buildA_op u (by kernel_rfl)) hw ?_
 refine qw 2 hw ?_
 refine qv (v:=ii (f+n)) rfl (fun u hu=>load_any_op u (run_load_one oneInt u (box_cell (k:=1) hu (mT mH) rfl)) rfl) hw ?_
 refine qv (v:= .agg #[ii (f+p),ii (f+n)]) rfl (fun u hu=>buildA_op u (by kernel_rfl)) hw ?_
 refine qv (v:= .agg #[ii f,ii (f+p),ii (f+p),ii (f+n)]) rfl (fun u hu=>buildA_op u (by kernel_rfl)) hw ?_
 refine wpG_nil<|(hOp_store rfl (w.heap.size+1) (#[ii f,ii (f+p),ii (f+p),ii (f+n)]) rfl rfl (Nat.le_succ _) 190 (#[ii 0,ii 0,ii 0,ii 0]) mH info_spans rfl (by kernel_rfl) [(w.heap.size+1,oc (#[ii f,ii (f+p),ii (f+p),ii (f+n)]) 190),(w.heap.size,oc #[ii f,ii (f+n)] 188)] (mA ⟨.inl rfl,mA ⟨.inr ⟨mT mH,by omega⟩,(fun _ h=>by cases h)⟩⟩) ?_)
 refine fun _=>enL fun u7 EX6=>?_
 have Q0:=hD (EnvX.box EX6.out _ _ mH)
 go_wp2_with ((with_reducible refine bodyPost_ret (v:= .agg #[ii f,ii (f+p),ii (f+p),ii (f+n)]) ?_ ?_ ?_);(exact results_cell_row (p:=2) (ty:=190) results174 _ _ (w.heap.size+1) 190 #[ii f,ii (f+p),ii (f+p),ii (f+n)] (0,0) _ rfl Q0.out underlying190 rfl info_spans);(rfl))
 first|exact EX6.out.bel|exact⟨rfl,EX6.out.bel⟩
theorem leaf_any(A:Option Addr)(n c:Nat)(xs:List Int)(w:World)(hl:xs.length=n)(hn:n≤1000000)(hx:Bytes w w.heap.size A xs)(hr: ∀x∈xs,0≤x∧x≤255)(ht:Tables w):
  Rz 117 #[.slice A n c] w (idv (leafT xs)):=by
 unfold Rz
 subst hl
 obtain⟨W,hW⟩: ∃W,((w.alloc (.cells (arrB 32 []) 26)).alloc (.cells #[.int .u8 0] 5)).alloc (.cells #[.slice (some ⟨w.heap.size+1,0,none⟩) 1 1, .slice A xs.length c] 100)=W:=⟨_,rfl⟩
 have r0:Row W w.heap.size 26 (arrB 32 []):=by rw[←hW];exact((Row.new w 26 _).alloc _).alloc _
 have r1:Row W (w.heap.size+1) 5 #[.int .u8 0]:=by rw[←hW];exact(Row.newAt (by simp) 5 _).alloc _
 have r2:Row W (w.heap.size+1+1) 100 #[.slice (some ⟨w.heap.size+1,0,none⟩) 1 1, .slice A xs.length c]:=by rw[←hW];exact Row.newAt (by simp) 100 _
 have hbW:Below w.heap.size w W:=by rw[←hW];exact(((Below.refl _ _).alloc (Nat.le_refl _) _).alloc (by simp) _).alloc (by simp;omega) _
 have hs:W.heap.size=w.heap.size+3:=by rw[←hW];simp
 have hb0:Bytes W W.heap.size (some ⟨w.heap.size+1,0,none⟩) [0]:=(own_of_row (B:=0) (n:=1) (xs:=[0]) r1 rfl (Nat.zero_le _) (by decide)).up
 have hP:Parts W W.heap.size (some ⟨w.heap.size+1+1,0,none⟩) [[0],xs]:=parts_two (c:=1) (c':=c) (by omega) (by rw[r2.cell];rfl) hb0 (by intro x hx;simp at hx;omega) (by rw[r2.cell];rfl) (hx.up hbW) hr
 have HOF:=hD (shaof_any (some ⟨w.heap.size+1+1,0,none⟩) 2 2 [[0],xs] W rfl hP (by omega) (by simp;omega) (ht.below hbW))
 have HE:Hid ([[0],xs].flatten=0::xs):=by show _=_;simp
 have R0:=hD r0
 have HB:=hD hbW
 have hz:Hid ((arrB 32 (leafT xs)).size=32∧(arrB 32 []).size=32∧(arrB 32 (leafT xs)).all (·.oneCell')=true):=⟨arrB_size _ _ (by unfold leafT;rw[sumL_len];omega),arrB_size _ _ (by simp),arrB_one _ _⟩
 have HW:=hD hW
 clear r0 r1 r2 hbW hs hb0 hP hx hr hW
 rw[HE.out]at HOF
 go_enter func117,ntmps117
 go_upto_region 1 with (fail)
 rw[zero_cells]
 have hW:=HW.out
 go_wp2_with fail
 clear hW
 refine HOF.out.mono ?_
 rintro e w2 ⟨rfl,hb2⟩
 have Q0:Hid (w2.heap[w.heap.size]?=some (.cells (arrB 32 []) 26 (0,0))):=R0.out.below hb2 R0.out.lt
 have HB2:=hD (HB.out.trans (hb2.mono HB.out.size))
 clear hb2 HOF R0 HB
 change Hid ((arrB 32 (sumL (0::xs))).size=32∧(arrB 32 []).size=32∧(arrB 32 (sumL (0::xs))).all (·.oneCell')=true)at hz
 generalize hcn:arrB 32 (sumL (0::xs))=cn at *
 have HCN:=hD hcn
 clear hcn
 generalize arrB 32 []=zs at *
 go_wp2_with (first
  |((with_reducible refine wpList_store_row (o:=⟨none, .store 26 _ _,_,_,_,_⟩) ?_ 26 (.tmp 2) (.tmp 6) ?_ w.heap.size cn ?_ ?_ 26 zs Q0.out (info26 cn hz.out.1) (by rw[hz.out.1,hz.out.2.1]) hz.out.2.2 ?_);(rfl);(rfl);(rfl);(rfl))
  |((with_reducible refine bodyPost_ret (v:= .agg cn) ?_ ?_ ?_);(exact results_cell_row (p:=2) (ty:=26) results117 _ _ w.heap.size 26 cn (0,0) _ rfl (setRow_heap _ _ zs cn 26 (0,0) Q0.out) underlying26 rfl (info26 cn hz.out.1));(rfl)))
 exact⟨by unfold idv leafT;rw[HCN.out],below_setRow HB2.out (Nat.le_refl _) _⟩
theorem ids2_list{a b:List Int}(ha:a.length=32)(hb:b.length=32):(arrB 32 a++arrB 32 b)=(a.map u8v++b.map u8v).toArray:=by
 rw[arr_id ha,arr_id hb]
 simp
theorem run_loadIds2{w0 u:World}{M:Boxes}{g:Nat}{t:TypeId}{a b:List Int}(hu:EnvC w0 M u)(hm:(g,oc (arrB 32 a++arrB 32 b) t)∈M)(ha:a.length=32)(hb:b.length=32):
  (loadVar 189 ⟨g,0,none⟩).run Tryz.prog u= .ok (.agg (arrB 32 a++arrB 32 b)) u:=by
 have h:=box_agg aggIds2 (k:=0) hu hm (a.map u8v++b.map u8v) (by simp[ha,hb]) (by
  rw[ids2_list ha hb,List.drop_zero,tL (by simp[ha,hb])])
 rw[ids2_list ha hb]
 exact h
theorem zero_ids2:(Tryz.prog.info? 189).map (fun i=>i.zero.map (·.cells.size))=some (some 64):=by kernel_rfl
theorem built_ids{A B:Array Value}(hA:A.size=32)(hB:B.size=32):Tryz.prog.built 189 [(0, .agg A),(1, .agg B)]=some (A++B):=by
 have hz:=zero_ids2
 cases hq:Tryz.prog.info? 189 with
 |none=>rw[hq]at hz;cases hz
 | some it=>
  rw[hq]at hz
  simp only[Option.map_some,Option.some.injEq]at hz
  cases hzz:it.zero with
  |none=>rw[hzz]at hz;cases hz
  | some z=>
   rw[hzz]at hz
   simp only[Option.map_some,Option.some.injEq]at hz
   have hi:=infoI
   cases hq2:Tryz.prog.info? 26 with
   |none=>rw[hq2]at hi;cases hi
   |some ie=>
    rw[hq2]at hi
    simp only[Option.map_some,Option.some.injEq,Prod.mk.injEq]at hi
    unfold Program.built
    simp only[hq,underlying189,hzz,hq2,hi.1]
    exact fill_two A B z.cells hA hB rfl rfl (by omega)
section
variable {a:Act}{dst:Option Tmp}{x:Operand}{ty:TypeId}{pos:String}{after:Array Edge}{gd:Option (Nat × Bool)}
end
def preN(a b:List Int):Nat→List Int
  |0=>[1]
  |1=>1::a
  |_=>1::(a++b)
def selN(a b:List Int):Nat→List Int
  |0=>a
  |_=>b
theorem pre_step(a b:List Int){k:Nat}(h:k<2):preN a b (k+1)=preN a b k++selN a b k:=by
 match k,h with
 |0,_=>simp[preN,selN]
 |1,_=>simp[preN,selN]
theorem pre_len{a b:List Int}(ha:a.length=32)(hb:b.length=32){k:Nat}(h:k≤2):(preN a b k).length=1+k*32:=by
 match k,h with
 |0,_=>simp[preN]
 |1,_=>simp[preN,ha]
 |2,_=>simp[preN,ha,hb]
theorem sel_cut{a b:List Int}(ha:a.length=32)(hb:b.length=32){k:Nat}(h:k<2):(arrB 32 a++arrB 32 b).extract (k*32) (k*32+32)=arrB 32 (selN a b k):=by
 rw[ids2_list ha hb]
 match k,h with
 |0,_=>
  show _=arrB 32 a
  rw[arr_id ha]
  simp[ha]
 |1,_=>
  show _=arrB 32 b
  rw[arr_id hb]
  simp[ha,hb]
  exact tL (by simp[hb])
theorem text_any(a b:List Int)(w:World)(ha:a.length=32)(hb:b.length=32):
  Calls Tryz.prog 175 #[.agg (arrB 32 a++arrB 32 b)] w fun e w'=>(∃v,e= .returned v∧w'.ownsRow w.heap.size 5 1 v 65 ((textT a b).map u8v))∧Below w.heap.size w w':=by
 have HA:=hD (And.intro ha (Nat.le_refl 0))
 have HB:=hD (And.intro hb (Nat.le_refl 0))
 clear ha hb
 have E1:Hid (EnvX w ((w.alloc (.cells (arrB 32 a++arrB 32 b) 189)).alloc (.cells #[.int .u8 1] 5)) [(w.heap.size+1,oc #[.int .u8 1] 5),(w.heap.size,oc (arrB 32 a++arrB 32 b) 189)]):=(EnvX.start w).two _ _
 go_enter func175,ntmps175
 go_upto_region 2 with (fail)
 generalize (w.alloc (.cells (arrB 32 a++arrB 32 b) 189)).alloc (.cells #[.int .u8 1] 5)=W at *
 refine rgQ [0,1] [] E1 rfl fun hw=>?_
 refine qv (v:= .agg (arrB 32 a++arrB 32 b)) rfl (fun u hu=>load_any_op u (run_loadIds2 hu (mT mH) HA.out.1 HB.out.1) rfl) hw ?_
 refine qo rfl hw ?_
 refine enP fun u3 EX2=>?_
 have HINV:Hid (∃N,FreshR 5 1 (1+0*32) ((preN a b 0).map u8v) (.slice (some ⟨w.heap.size+1,0,none⟩) 1 1) N∧freshN w N []∧EnvX w u3 N):=by
  refine⟨_, .inl ⟨w.heap.size+1,1,#[.int .u8 1],rfl,rfl,by omega,by decide,rfl,rfl⟩,?_,EnvX.sub EX2.out (fun y hy=>?_)⟩
  · intro y hy
    cases mS.1 hy
    exact⟨Nat.le_succ _,fun z hz=>by cases hz⟩
  · cases mS.1 hy
    exact mH
 clear EX2
 go_upto_region 3 with (fail)
 go_loopw [3,8] (fun v i u=> ∃k:Nat,k≤2∧i= .int .i64 k∧Hid (∃N,FreshR 5 1 (1+k*32) ((preN a b k).map u8v) v N∧freshN w N []∧EnvX w u N)) (fun _ i _=>2- (intOf i).toNat)
 case atStart=>exact⟨0,by omega,rfl,HINV⟩
 case round=>
  obtain⟨k,hk,rfl,hinv⟩:=hrel
  obtain⟨N,hF,hN,hE⟩:=hinv.out
  clear hinv HINV
  by_cases hlt:k<2
  · have hk2:(k:Int)<2:=by omega
    have EK:Hid (EnvX w wr (N++[])):=by show EnvX _ _ _;rw[List.append_nil];exact hE
    have HF:=hD hF
    have HN:=hD hN
    have HK:=hD hlt
    have HIX:=hD (sel_cut HA.out.1 HB.out.1 hlt)
    have HX:Hid ((selN a b k).length=32):=by
     match k,hlt with
     |0,_=>exact HA.out.1
     |1,_=>exact HB.out.1
    have HPS:=hD (pre_step a b hlt)
    have HPL:=hD (pre_len HA.out.1 HB.out.1 (Nat.le_of_lt hlt))
    have HKS:Hid (1+k*32+32≤2000000):=by show _≤_;omega
    clear hE hF hN
    generalize selN a b k=x at *
    go_upto_region 4 with (fail)
    refine rgQ [0] [1,2] EK rfl fun hw=>?_
    refine qv (v:=idv x) rfl (fun u hu=>index_op underlying189 aggId HK.out HIX.out u rfl rfl) hw ?_
    refine wpG_nil<|(hOp_fresh (R:=fun x N=> ∃g,x= .pointer (some ⟨g,0,none⟩)∧N=[(g,oc (arrB 32 []) 26)]) (M0:=(N++[])) rfl rfl (fun _ h=>h) (fun u hu=>FAt_new (new_id _) u) ?_)
    rintro x N ⟨g9,rfl,rfl⟩ hf he5;intro K' hK';go_big_quiet_op;go_big_quiet_on
    have HG9:=hD hf
    clear hf
    change lexH _ _ _ _ _ _ ((g9,oc (arrB 32 []) 26)::(N++[]))
    refine(hOp_store rfl (g9) (arrB 32 x) rfl rfl (HG9.out _ (mS.2 rfl)).1 26 ((arrB 32 [])) mH (info26 _ (arrB_size _ _ (by rw[HX.out];omega))) ((arrB_size _ _ (by simp)).trans (arrB_size _ _ (by rw[HX.out];omega)).symm) (arrB_one _ _) ((g9,oc (arrB 32 x) 26)::(N++[])) (fun y hy=>(List.mem_cons.1 hy).imp id (fun h=>⟨mT (by simpa using h),(HG9.out _ (mS.2 rfl)).2 _ (by simpa using h)⟩)) ?_)
    refine fun _=>enL fun u8 EX7=>?_
    go_upto_region 5 with (fail)
    refine rgQ [0,1] [2,3] EX7 rfl fun hw=>?_
    refine qo rfl hw ?_
    refine qv (v:= .slice (some ⟨g9,0,none⟩) 32 32) rfl (fun u hu=>sliceArr_op u rfl) hw ?_
    refine wpG_nil<|(hOp_own (gd:=none) (R:=GrownR w 5 1 (1+k*32+32) ((preN a b k).map u8v++x.map u8v) []) rfl rfl rfl rfl (fun u hu=>appR_op elB (m:=32) (c:=32) [] hu (by rw[lM,HPL.out];omega) (by rw[lM,HX.out]) (fun z hz=>by obtain⟨q,_,rfl⟩:=List.mem_map.1 hz;rfl) HF.out (fun y hy=>⟨mT (mL hy),(HN.out y hy).1⟩) (by rw[←arr_id HX.out];exact mH) (fun z hz=>by cases hz) HKS.out rfl rfl) ?_)
    rintro x M' ⟨N2,rfl,hF2,hf2⟩ he10;intro K' hK';go_big_quiet_op;go_big_quiet_on
    have HF2:=hD (And.intro hF2 hf2)
    clear hF2 hf2
    refine phE [3] [] he10 fun hw=>?_
    refine qo rfl hw ?_
    refine enP fun u13 EX12=>?_
    go_wp2
    go_roundw
    case rel=>
     refine⟨k+1,by omega,by go_num,N2,?_,HF2.out.2,by simpa using EX12.out⟩
     have h:=HF2.out.1
     rw[HPS.out,List.map_append,show 1+(k+1)*32=1+k*32+32 by omega]
     exact h
    case measure=>simp[intOf];omega
  · obtain rfl:k=2:=by omega
    have HO:=hD (And.intro (hF.own (B:=w.heap.size) (by rw[lM,pre_len HA.out.1 HB.out.1 (Nat.le_refl _)]) (fun y hy=>⟨(hN y hy).1,EnvX.box hE _ _ hy⟩)) (EnvX.bel hE))
    clear hF hN hE
    go_wp2
    go_ret
    exact⟨⟨_,rfl,HO.out.1⟩,HO.out.2⟩
theorem box_bytes65{w0 u:World}{M:Boxes}{g cap:Nat}{cur:Array Value}{xs:List Int}(hu:EnvC w0 M u)(hm:(g,oc cur 5)∈M)(hl:xs.length=65)(h:65≤cap∧cap≤maxLen∧cur.size=cap*1∧cur.toList.take (65*1)=xs.map u8v):Bytes u u.heap.size (some ⟨g,0,none⟩) xs:=by
 have:OwnB u 0 (.slice (some ⟨g,0,none⟩) xs.length cap) xs:=⟨by simp, .inr ⟨g,cap,cur,rfl,Nat.zero_le _,EnvX.box hu g _ hm,by rw[hl];exact h.1,h.2.1,h.2.2.1,by rw[hl];exact h.2.2.2⟩⟩
 exact this.bytes.2
theorem node_any(a b:List Int)(w:World)(ha:a.length=32∧ ∀x∈a,0≤x∧x≤255)(hb:b.length=32∧ ∀x∈b,0≤x∧x≤255)(ht:Tables w):
  Rz 116 #[idv a,idv b] w (idv (nodeT a b)):=by
 unfold Rz
 have HA:=hD ha
 have HB:=hD hb
 have HAB:Hid ((arrB 32 a).size=32∧(arrB 32 b).size=32):=⟨arrB_size _ _ (by omega),arrB_size _ _ (by omega)⟩
 have HTX:=hD (fun u=>text_any a b u ha.1 hb.1)
 have HTL:Hid ((textT a b).length=65):=by show _=_;unfold textT;simp[ha.1,hb.1]
 have HSUM:Hid (∀u g cap,Bytes u u.heap.size (some ⟨g,0,none⟩) (textT a b)→EnvX w u []→Calls Tryz.prog 110 #[.slice (some ⟨g,0,none⟩) 65 cap] u fun e w'=>e= .returned (idv (nodeT a b))∧Below u.heap.size u w'):=fun u g cap h1 h2=>
  sum_any (some ⟨g,0,none⟩) 65 cap (textT a b) u HTL.out (by omega) h1 (textT_byte ha.2 hb.2) (ht.below (EnvX.bel h2))
 have HLE:Hid (w.heap.size≤w.heap.size+1+1):=by show _≤_;omega
 have HNL:Hid ((nodeT a b).length≤32):=by show _≤_;rw[(node_id _ _).1];omega
 have E1:Hid (EnvX w (((w.alloc (.cells (arrB 32 a) 26)).alloc (.cells (arrB 32 b) 26)).alloc (.cells (arrB 32 []) 26)) [(w.heap.size+1+1,oc (arrB 32 []) 26),(w.heap.size+1,oc (arrB 32 b) 26),(w.heap.size,oc (arrB 32 a) 26)]):=by
  have h:=((EnvX.start w).two (oc (arrB 32 a) 26) (oc (arrB 32 b) 26)).new (oc (arrB 32 []) 26)
  have hs:((w.alloc (oc (arrB 32 a) 26)).alloc (oc (arrB 32 b) 26)).heap.size=w.heap.size+1+1:=by simp
  rw[hs]at h
  exact h
 clear ha hb ht
 unfold idv
 go_enter func116,ntmps116
 go_upto_region 1 with (fail)
 rw[zero_cells]
 generalize ((w.alloc (.cells (arrB 32 a) 26)).alloc (.cells (arrB 32 b) 26)).alloc (.cells (arrB 32 []) 26)=W at *
 refine rgQ [0,1,2] [3,4,5] E1 rfl fun hw=>?_
 refine qv rfl (fun u hu=>load_run_op u (box_load hu (mT (mT mH)) HA.out.1) rfl) hw ?_
 refine qv rfl (fun u hu=>load_run_op u (box_load hu (mT mH) HB.out.1) rfl) hw ?_
 refine qv (v:= .agg (arrB 32 a++arrB 32 b)) rfl (fun u hu=>buildA_op u (built_ids HAB.out.1 HAB.out.2)) hw ?_
 refine wpG_nil<|qr rfl func175 (fun u hu=>callsR_fresh (HTX.out u)) ?_
 rintro x N hF hf he2
 obtain⟨g,cap,cur,rfl,rfl,hcur⟩|⟨_,_,h0,_⟩:=hF
 case inr=>cases h0
 have HCUR:=hD hcur
 clear hcur
 clear hf
 refine phE [4] [5] he2 fun hw=>?_
 refine qc rfl func110 (fun u hu=>HSUM.out u _ _ (box_bytes65 hu mH HTL.out HCUR.out) (nl hu)) hw ?_
 refine wpG_nil<|(so rfl HLE.out (mT mH) (info26 _ (arrB_size _ _ HNL.out)) ((arrB_size _ _ (by simp)).trans (arrB_size _ _ HNL.out).symm) (arrB_one _ _) ?_)
 refine fun _=>enL fun u6 EX5=>?_
 have hsz:Hid ((arrB 32 (nodeT a b)).size=32):=arrB_size _ _ HNL.out
 have Q0:=hD (EnvX.box EX5.out _ _ mH)
 have HBEL:=hD EX5.out.bel
 clear EX5
 generalize hcn:arrB 32 (nodeT a b)=cn at *
 have HCN:=hD hcn
 clear hcn
 go_wp2_with ((with_reducible refine bodyPost_ret (v:= .agg cn) ?_ ?_ ?_);(exact results_cell_row (p:=4) (ty:=26) results116 _ _ (w.heap.size+1+1) 26 cn (0,0) _ rfl Q0.out underlying26 rfl (info26 cn hsz.out));(rfl))
 exact⟨by rw[HCN.out],HBEL.out⟩
end Go.Proofs.YtojmeodoenkapaaGreatDoor
