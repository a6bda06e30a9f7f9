/- Part of a proof. -/
import Derived.Test.YtojmeodoenkapaaGreatDoorChainPushesPb
import Derived.Lib.Slices
import Derived.Lib.SliceRun
import Derived.Lib.AppendZeros
import Derived.Orders
import Derived.OrdersIn
import Derived.OwnWalkIn
import Derived.RangeFuncCalls
import Derived.WalkKit
open Go.Proofs.Tryz
namespace Go.Proofs.YtojmeodoenkapaaGreatDoor
set_option maxRecDepth 20000
set_option maxHeartbeats 8000000
set_option linter.unusedVariables false
set_option linter.unusedSimpArgs false
def tipE:TipR:=j4t 545259519
def q6D:Hd:=j05 tipE [] 0
theorem j89:isC 545259519=true:=by decide+kernel
theorem q8m:j1g tipE.b.h=31:=j7s j89
theorem q60:j0H tipE=[idH tipE.b.h]:=by
 unfold j0H
 rw[q8m]
 rfl
theorem q52:((List.range 200).find? (fun k=>j4U (j0T q6D k))).isSome=true:=by decide+kernel
def blkE:BlkR:=⟨(j3x q6D 200).1,[idH tipE.b.h],[]⟩
theorem j5z:j2Q tipE [] 0 200=(blkE,0):=by
 have hm:(j3x q6D 200).2=true:=by
  have h:=q52
  unfold j3x
  rw[show (min (200:Int) 200).toNat=200 from rfl]
  cases hf:(List.range 200).find? (fun k=>j4U (j0T q6D k))with
  |none=>rw[hf]at h;cases h
  |some k=>rfl
 unfold j2Q
 rw[if_neg (show¬(48≤(j05 tipE [] 0).height)by show¬(48≤IntKind.i64.wrap (0+1));rw[IntKind.wrap_i64];omega),if_neg (fun k=>k rfl),show j3x (j05 tipE [] 0) 200=j3x q6D 200 from rfl,hm]
 simp only[Bool.true_eq_false,if_false]
 rw[q60]
 rfl
def q9Q:TipR:=⟨blkE,j1A tipE.p (j0C blkE.h),[]⟩
theorem x1a:j2a tipE blkE=(q9Q,0):=q6B j5z
theorem x0n:blkE.h=j05 tipE [] blkE.h.nonce:=(j9w j5z).1
theorem q34:blkE.h.height=1:=by
 rw[x0n]
 show IntKind.i64.wrap (0+1)=1
 rw[IntKind.wrap_i64]
 omega
open Go.RowKit
def HeapB(w:World):j0e:=(List.finRange w.heap.size).map fun i=>(i.val,w.heap[i])
theorem HeapB.get{w:World}{k:Nat}(hk:k<w.heap.size):(k,w.heap[k])∈HeapB w:=List.mem_map.2 ⟨⟨k,hk⟩,List.mem_finRange _,rfl⟩
theorem HeapB.box{w:World}: ∀y∈HeapB w,w.heap[y.1]?=some y.2:=fun y hy=>by
 obtain⟨i,_,rfl⟩:=List.mem_map.1 hy
 exact Array.getElem?_eq_getElem i.isLt
theorem HeapB.bel{w0 w' u:World}{M M':j0e}(h:EnvX w0 w' M')(hu:EnvX w0 u M)(hN: ∀y∈HeapB w',y∈M):Below w'.heap.size w' u:=by
 have hb: ∀k,(hk:k<w'.heap.size)→u.heap[k]?=some w'.heap[k]:=fun k hk=>hu.box _ _ (hN _ (HeapB.get hk))
 refine⟨by rw[(EnvX.bel hu).os,(EnvX.bel h).os],by rw[(EnvX.bel hu).tape,(EnvX.bel h).tape],by rw[(EnvX.bel hu).output,(EnvX.bel h).output],?_,fun k hk=>by rw[hb k hk,Array.getElem?_eq_getElem hk]⟩
 rcases Nat.eq_zero_or_pos w'.heap.size with h0|h0
 · omega
 · have:=hb (w'.heap.size- 1) (by omega)
   obtain⟨h1,_⟩:=Array.getElem?_eq_some_iff.1 this
   omega
def j66(w0:World)(N:j0e)(Q:World→Prop):Prop:= ∀u M,EnvX w0 u M→(∀y∈N,y∈M)→Q u
theorem q8R{w0 w':World}{M:j0e}(hE:EnvX w0 w' M):EnvX w0 w' (HeapB w'++M):=⟨hE.bel,fun g o hm=>by
 rcases List.mem_append.1 hm with h|h
 · exact HeapB.box _ h
 · exact hE.box g o h⟩
theorem q3N{P:Program}{f:FuncId}{args:Array Value}{u w0:World}{M:j0e}{α:Type}{V:α→Value}{Q:α→World→Prop}(hQ: ∀r w w',Below w.heap.size w w'→Q r w→Q r w')(h:Calls P f args u fun e w'=>(∃t,e= .returned (V t)∧Q t w')∧Below u.heap.size u w')(hu:EnvX w0 u M):
  Calls P f args u fun e w'=> ∃r M',e= .returned r∧EnvX w0 w' M'∧ ∃t N,r=V t∧M'=N++M∧j66 w0 N (Q t)∧ ∃v,Q t v:=
 h.mono fun e w'⟨⟨t,he,hq⟩,hb⟩=>by
  have hE:=EnvX.below hu hb
  exact⟨_,_,he,q8R hE,t,HeapB w',rfl,rfl,(fun v M2 hv hN=>hQ t w' v (HeapB.bel hE hv hN) hq),w',hq⟩
def j3u(l:List TxM)(m:Int):Bool:=l.all (fun t=>q1u t.r) && decide ((l.length:Int)≤m)
theorem q7H{l:List TxM}{m:Int}{k:Nat}(hk:k<l.length)(h:q1u (l.getD k j0A).r=false):j3u l m=false:=by
 unfold j3u
 have e:l.all (fun t=>q1u t.r)=false:=by
  rw[List.all_eq_false]
  refine⟨l.getD k j0A,?_,by rw[h];decide⟩
  rw[gD,gE hk]
  exact List.getElem_mem hk
 rw[e]
 rfl
theorem q42{l:List TxM}{m:Int}(h: ∀k,k<l.length→q1u (l.getD k j0A).r=true):j3u l m=decide ((l.length:Int)≤m):=by
 unfold j3u
 have e:l.all (fun t=>q1u t.r)=true:=by
  rw[List.all_eq_true]
  intro t ht
  obtain⟨k,hk,rfl⟩:=List.getElem_of_mem ht
  have:=h k hk
  rwa[gD,gE hk]at this
 rw[e]
 rfl
theorem q4f{l:List TxM}{m:Int}(h:j3u l m=true):(l.length:Int)≤m:=by
 unfold j3u at h
 rw[Bool.and_eq_true,decide_eq_true_eq]at h
 exact h.2
theorem q4V(l:List TxM)(m:Int)(A:Option Addr)(n c:Nat)(w:World)(hl:l.length=n)(hn:n<9223372036854775808)(hA:TxsIn w A l):
  Rz 12 #[.slice A n c, .int .i64 m] w (.bool (j3u l m)):=by
 unfold Rz
 have HL:=hD hl
 have HIA:=hD hA
 have HN63:=hD hn
 clear hl hA
 go_enter func12,ntmps12
 go_upto_region 2 with (fail)
 go_loopw [5] (fun iv u=> ∃k:Nat,k≤n∧iv= .int .i64 (k:Int)∧Hid ((∀j,j<k→q1u (l.getD j j0A).r=true)∧Below w.heap.size w u)) (fun iv _=>n- (intOf iv).toNat)
 case atStart=>exact⟨0,by omega,rfl,fun j hj=>by omega,Below.refl _ _⟩
 case round=>
  obtain⟨k,hk,rfl,hinv⟩:=hrel
  obtain⟨hA,hB⟩:=hinv.out
  clear hinv
  have HF:=hD hA
  have EK:Hid (EnvX w wr []):=⟨hB,fun _ _ h=>by cases h⟩
  clear hA hB
  by_cases hlt:k<n
  · have hkl:k<l.length:=by rw[HL.out];exact hlt
    obtain⟨ad,rfl,-,hld⟩:=HIA.out.loads hkl
    have HLD:Hid (∀u,EnvX w u []→(loadVar 77 (ad.add (k*2))).run Tryz.prog u= .ok (txV (l.getD k j0A)) u):=fun u hu=>(hld u hu).1
    have HFW:Hid (Rb w 37 #[txV (l.getD k j0A)] (.bool (q1u (l.getD k j0A).r))):=fun u hu=>x22 _ u ((HIA.out.get hkl).up hu)
    have HKN:=hD hlt
    have HKL:=hD hkl
    have C2:Hid (decide ((k:Int)<(n:Int))=true):=decide_eq_true (by omega)
    clear hld
    have hno:q1u (l.getD k j0A).r=false→j3u l m=false:=fun e=>q7H hkl e
    have HNO:=hD hno
    clear hno hkl
    cases hf:q1u (l.getD k j0A).r with
    |false=>
     rw[hf]at HFW
     go_upto_region 2 with (fail)
     refine rgQ [0,1,2,3] [] EK rfl fun hw=>?_
     refine qw 2 hw ?_
     refine qv rfl (fun u hu=>j0l underlying23 HN63.out u rfl) hw ?_
     refine qv rfl (fun u hu=>j0o u C2.out rfl rfl) hw ?_
     refine enP fun u3 EX2=>?_
     go_upto_region 4 with (fail)
     refine rgQ [0,1,2,3,4,5] [] EX2 rfl fun hw=>?_
     refine qw 2 hw ?_
     refine qv rfl (fun u hu=>j0h underlying23 aggTx.size HKN.out u rfl rfl) hw ?_
     refine qv rfl (fun u hu=>j0a u (HLD.out u hu) rfl) hw ?_
     refine qc rfl func37 (fun u hu=>HFW.out u (EnvX.bel hu)) hw ?_
     refine qo rfl hw ?_
     refine enP fun u6 EX5=>?_
     have HBE:=hD (EnvX.bel EX5.out)
     have HRS:Hid (j3u l m=false):=HNO.out hf
     clear hf
     go_wp2
     go_ret
     exact⟨by rw[HRS.out];rfl,HBE.out⟩
    | true=>
     rw[hf]at HFW
     go_upto_region 2 with (fail)
     refine rgQ [0,1,2,3] [] EK rfl fun hw=>?_
     refine qw 2 hw ?_
     refine qv rfl (fun u hu=>j0l underlying23 HN63.out u rfl) hw ?_
     refine qv rfl (fun u hu=>j0o u C2.out rfl rfl) hw ?_
     refine enP fun u3 EX2=>?_
     go_upto_region 4 with (fail)
     refine rgQ [0,1,2,3,4,5] [] EX2 rfl fun hw=>?_
     refine qw 2 hw ?_
     refine qv rfl (fun u hu=>j0h underlying23 aggTx.size HKN.out u rfl rfl) hw ?_
     refine qv rfl (fun u hu=>j0a u (HLD.out u hu) rfl) hw ?_
     refine qc rfl func37 (fun u hu=>HFW.out u (EnvX.bel hu)) hw ?_
     refine qo rfl hw ?_
     refine enP fun u6 EX5=>?_
     have HBE:=hD (EnvX.bel EX5.out)
     have HF2:Hid (∀j,j<k+1→q1u (l.getD j j0A).r=true):=fun j hj=>by
      by_cases e:j=k
      · rw[e];exact hf
      · exact HF.out j (by omega)
     clear hf
     go_wp2
     go_roundw
     case rel=>exact⟨k+1,by omega,by go_num,HF2.out,HBE.out⟩
     case measure=>simp[intOf];omega
  · obtain rfl:k=n:=by omega
    have HRS:Hid (j3u l m=decide ((k:Int)≤m)):=by rw[q42 (by rw[HL.out];exact HF.out),HL.out];rfl
    have C2:Hid (decide ((k:Int)<(k:Int))=false):=decide_eq_false (by omega)
    go_upto_region 2 with (fail)
    refine rgQ [0,1,2,3] [] EK rfl fun hw=>?_
    refine qw 2 hw ?_
    refine qv rfl (fun u hu=>j0l underlying23 HN63.out u rfl) hw ?_
    refine qv rfl (fun u hu=>j0o u C2.out rfl rfl) hw ?_
    refine enP fun u3 EX2=>?_
    go_upto_region 7 with (fail)
    refine rgQ [0,1,2,3,4] [] EX2 rfl fun hw=>?_
    refine qo rfl hw ?_
    refine qv rfl (fun u hu=>j0l underlying23 HN63.out u rfl) hw ?_
    refine qo rfl hw ?_
    refine qv rfl (fun u hu=>j4A u HRS.out.symm rfl rfl) hw ?_
    refine qo rfl hw ?_
    refine enP fun u6 EX5=>?_
    have HBE:=hD (EnvX.bel EX5.out)
    go_wp2
    go_ret
    exact⟨rfl,HBE.out⟩
def q6x(r:TxR):Prop:=r.ins.length≤1000000∧r.outs.length≤1000000
theorem x06{r:TxR}(h:q1u r=true):q6x r:=by
 unfold q1u at h
 rw[decide_eq_true_eq]at h
 exact⟨by omega,by omega⟩
def j3W(l:List TxM):Prop:=l.length≤1000000∧ ∀x∈l,q6x x.r
def j3f(t:TipM):Prop:=t.b.l.length≤1000000∧t.p.length≤1000∧t.c.length≤1000∧j3W t.b.t
def j2c(b:BlkM):Prop:=b.l.length≤1000000∧j3W b.t
def IsTip(r:TipR)(t:TipM)(w:World):Prop:=t.r=r∧TipOk w t
def j5Q(r:BlkR)(b:BlkM)(w:World):Prop:=b.r=r∧BlkOk w b
theorem IsTip.up{r:TipR}{t:TipM}{w w':World}(hb:Below w.heap.size w w')(h:IsTip r t w):IsTip r t w':=⟨h.1,h.2.up hb⟩
theorem j62{f:FuncId}{args:Array Value}{u w0:World}{M:j0e}{r:TipR}{y:Value}(h:Calls Tryz.prog f args u fun e w'=>(∃t:TipM,e= .returned (.tuple #[j29 t,y])∧IsTip r t w')∧Below u.heap.size u w')(hu:EnvX w0 u M):
  Calls Tryz.prog f args u fun e w'=> ∃x M',e= .returned x∧EnvX w0 w' M'∧ ∃t N,x= .tuple #[j29 t,y]∧M'=N++M∧j66 w0 N (IsTip r t)∧ ∃v,IsTip r t v:=
 q3N (V:=fun t=> .tuple #[j29 t,y]) (Q:=IsTip r) (fun t w w' hb h=>h.up hb) h hu
def fewK(b:BlkM):Bool:=j3u b.t 6&& decide (b.l.length≤40)
theorem q5p{l:List TxM}(h:j3u l 6=true):j3W l:=by
 have h2:=q4f h
 unfold j3u at h
 rw[Bool.and_eq_true,List.all_eq_true]at h
 exact⟨by omega,fun x hx=>x06 (h.1 x hx)⟩
theorem fewK.mid{b:BlkM}(h:fewK b=true):j2c b∧b.l.length≤40:=by
 unfold fewK at h
 rw[Bool.and_eq_true,decide_eq_true_eq]at h
 exact⟨⟨by omega,q5p h.1⟩,h.2⟩
theorem j4w:j0L noBlkM=zeroCells37:=by kernel_rfl
theorem j2I:j0j noTipM=zeroCells41:=by kernel_rfl
section
variable {dst:Option Tmp}{ty:TypeId}{pos:String}{after:Array Edge}{gd:Option (Nat × Bool)}
theorem j4R(a:Act):j3r Tryz.prog ⟨dst, .alloc 37,ty,pos,after,gd⟩ a (.cells (j0L noBlkM) 37 (0,0)):=fun u=>by
 rw[j4w]
 go_simp
theorem j2d(a:Act):j3r Tryz.prog ⟨dst, .alloc 41,ty,pos,after,gd⟩ a (.cells (j0j noTipM) 41 (0,0)):=fun u=>by
 rw[j2I]
 go_simp
end
theorem j1k:j0M j2H:=⟨rfl,rfl,rfl,rfl⟩
theorem j0V{t:TipM}(k:j0M t.b.h):(j0j noTipM).size=(j0j t).size:=(j0m (t:=noTipM) j1k).trans (j0m k).symm
theorem j1D{b:BlkM}(k:j0M b.h):(j0L noBlkM).size=(j0L b).size:=(j0O (b:=noBlkM) j1k).trans (j0O k).symm
section
variable {a:Act}{dst:Option Tmp}{x y:Operand}{ty:TypeId}{pos:String}{after:Array Edge}{gd:Option (Nat × Bool)}
theorem j4Z{m k:Int}{b:Bool}(u:World)(hb:decide (m=k)=b)(hx:a.eval x= .int .i64 m)(hy:a.eval y= .int .i64 k):
  (execOp a.eval ⟨dst, .binOp .eql 42 x y 42,ty,pos,after,gd⟩).run Tryz.prog u= .ok (.value (.bool b)) u:=by
 have e:(m==k)=b:=by rw[←hb];by_cases h:m=k<;>simp[h]
 subst e
 unfold execOp
 simp only[hx,hy]
 go_simp
end
theorem CoB.some{q:List CoinR}{A:Option Addr}{N:j0e}(h:CoB q A N)(hok:okP q)(hk:0<q.length): ∃ad,A=some ad:=by
 rcases h with ⟨h,_⟩|⟨ad,_,rfl,_⟩
 · have:=j3Y hok.lens
   rw[h]at this
   simp at this
   omega
 · exact⟨ad,rfl⟩
theorem j4P{a b c d:List Value}{k n:Nat}(ha:a.length=k)(hb:b.length=n):(a++(b++c)).take k++d++(a++(b++c)).drop (k+n)=a++(d++c):=by
 rw[List.take_left' ha,←List.drop_drop,List.drop_left' ha,List.drop_left' hb,aA]
theorem q1P{h:Hd}(k:j0M h)(v:List Int)(r:List Value):(hdC h++r).take 33++(j0d 32 v).toList++(hdC h++r).drop (33+32)=hdC {h with links:=v}++r:=by
 have:=j4P (a:=[.int .i64 h.height]++(j0d 32 h.prev).toList) (b:=(j0d 32 h.links).toList) (c:=(j0d 32 h.txs).toList++(j0d 32 h.past).toList++(wcs h.work).toList++[.int .u32 h.bits]++[.int .u64 h.nonce]++r) (d:=(j0d 32 v).toList) (k:=33) (n:=32) (by simp only[lA,List.length_cons,List.length_nil,j0g k.1,j0g k.2.1,j0g k.2.2.1,j0g k.2.2.2,j1j]) (j0g k.2.1)
 unfold hdC
 simp only[aA,List.nil_append]at this ⊢
 exact this
theorem q8A{h:Hd}(k:j0M h)(v:List Int)(r:List Value):(hdC h++r).take 65++(j0d 32 v).toList++(hdC h++r).drop (65+32)=hdC {h with txs:=v}++r:=by
 have:=j4P (a:=[.int .i64 h.height]++(j0d 32 h.prev).toList++(j0d 32 h.links).toList) (b:=(j0d 32 h.txs).toList) (c:=(j0d 32 h.past).toList++(wcs h.work).toList++[.int .u32 h.bits]++[.int .u64 h.nonce]++r) (d:=(j0d 32 v).toList) (k:=65) (n:=32) (by simp only[lA,List.length_cons,List.length_nil,j0g k.1,j0g k.2.1,j0g k.2.2.1,j0g k.2.2.2,j1j]) (j0g k.2.2.1)
 unfold hdC
 simp only[aA,List.nil_append]at this ⊢
 exact this
theorem q4z{h:Hd}(k:j0M h)(v:List Int)(r:List Value):(hdC h++r).take 97++(j0d 32 v).toList++(hdC h++r).drop (97+32)=hdC {h with past:=v}++r:=by
 have:=j4P (a:=[.int .i64 h.height]++(j0d 32 h.prev).toList++(j0d 32 h.links).toList++(j0d 32 h.txs).toList) (b:=(j0d 32 h.past).toList) (c:=(wcs h.work).toList++[.int .u32 h.bits]++[.int .u64 h.nonce]++r) (d:=(j0d 32 v).toList) (k:=97) (n:=32) (by simp only[lA,List.length_cons,List.length_nil,j0g k.1,j0g k.2.1,j0g k.2.2.1,j0g k.2.2.2,j1j]) (j0g k.2.2.2)
 unfold hdC
 simp only[aA,List.nil_append]at this ⊢
 exact this
theorem q48{h:Hd}(k:j0M h)(v:Nat)(r:List Value):(hdC h++r).take 133++[.int .u32 v]++(hdC h++r).drop (133+1)=hdC {h with bits:=v}++r:=by
 have:=j4P (a:=[.int .i64 h.height]++(j0d 32 h.prev).toList++(j0d 32 h.links).toList++(j0d 32 h.txs).toList++(j0d 32 h.past).toList++(wcs h.work).toList) (b:=[.int .u32 h.bits]) (c:=[.int .u64 h.nonce]++r) (d:=[.int .u32 v]) (k:=133) (n:=1) (by simp only[lA,List.length_cons,List.length_nil,j0g k.1,j0g k.2.1,j0g k.2.2.1,j0g k.2.2.2,j1j]) rfl
 unfold hdC
 simp only[aA,List.nil_append]at this ⊢
 exact this
def j2T(place:Nat→Option (Nat × Nat)):List Value→List (Nat × Value)→List Value→Prop
  |zs,[],r=>zs=r
  |zs,(i,v)::ps,r=> ∃o,place i=some (o,v.cells.size)∧o+v.cells.size≤zs.length∧j2T place (zs.take o++v.cells.toList++zs.drop (o+v.cells.size)) ps r
theorem q1n{place:Nat→Option (Nat × Nat)}: ∀(ps:List (Nat × Value))(zs:Array Value)(r:List Value),j2T place zs.toList ps r→Instr.fill place zs ps=some r.toArray
 |[],zs,r,h=>by
  have h':zs.toList=r:=h
  rw[←h',Array.toArray_toList]
  rfl
 |(i,v)::ps,zs,r,⟨o,h1,h2,h3⟩=>by
  rw[Array.length_toList]at h2
  obtain⟨g1,g2⟩:=Great.foldl_set o v.cells.toList 0 zs
  have e1:v.cells.zipIdx.foldl (fun cs(x:Value × Nat)=>cs.setIfInBounds (o+x.2) x.1) zs=(v.cells.toList.zipIdx 0).foldl (fun cs(x:Value × Nat)=>cs.setIfInBounds (o+x.2) x.1) zs:=by rw[←Array.foldl_toList,Array.toList_zipIdx]
  have e2:=q0G o v.cells zs h2
  unfold Instr.fill
  simp only[h1,e1]
  split
  · rename_i h
    simp at h
    omega
  · exact q1n ps _ r (by rw[e2];exact h3)
theorem j3P{t:TypeId}{fields:Array Field}{places:List (Nat × Nat)}{cs:List Value}(hu:Tryz.prog.underlying t=some (.struct fields))(hn:(Tryz.prog.info? t).map (fun i=>i.zero.map (·.cells))=some (some cs.toArray))
  (hp:fields.toList.mapM (fun f=>(Tryz.prog.info? f.type).map fun i=>(f.offset,i.size))=some places) {ps:List (Nat × Value)} {r:List Value} (h:j2T (places.toArray[·]?) cs ps r):Tryz.prog.built t ps=some r.toArray:=by
 cases hq:Tryz.prog.info? t with
 |none=>rw[hq]at hn;cases hn
 | some it=>
  rw[hq]at hn
  simp only[Option.map_some,Option.some.injEq]at hn
  cases hzz:it.zero with
  |none=>rw[hzz]at hn;cases hn
  |some z=>
   rw[hzz]at hn
   simp only[Option.map_some,Option.some.injEq]at hn
   unfold Program.built
   simp only[hq,hu,hzz,hp]
   exact q1n ps _ r (by rw[hn];exact h)
theorem q1E{place:Nat→Option (Nat × Nat)}{zs r:List Value}{i o:Nat}{x:List Int}{ps:List (Nat × Value)}(hx:x.length=32)(h1:place i=some (o,32))(h2:o+32≤zs.length)(h3:j2T place (zs.take o++(j0d 32 x).toList++zs.drop (o+32)) ps r):j2T place zs ((i,idv x)::ps) r:=by
 have hz:(j0d 32 x).size=32:=j0c _ _ (by rw[hx];omega)
 refine⟨o,?_,?_,?_⟩
 · show place i=some (o,(j0d 32 x).size)
   rw[hz,h1]
 · show o+(j0d 32 x).size≤zs.length
   rw[hz]
   exact h2
 · show j2T place (zs.take o++(j0d 32 x).toList++zs.drop (o+(j0d 32 x).size)) ps r
   rw[hz]
   exact h3
theorem q6T{place:Nat→Option (Nat × Nat)}{zs r:List Value}{i o:Nat}{x:Hd}{ps:List (Nat × Value)}(hx:j0M x)(h1:place i=some (o,135))(h2:o+135≤zs.length)(h3:j2T place (zs.take o++hdC x++zs.drop (o+135)) ps r):j2T place zs ((i,hdV x)::ps) r:=by
 have hz:(hdA x).size=135:=j1r hx
 refine⟨o,?_,?_,?_⟩
 · show place i=some (o,(hdA x).size)
   rw[hz,h1]
 · show o+(hdA x).size≤zs.length
   rw[hz]
   exact h2
 · show j2T place (zs.take o++hdC x++zs.drop (o+(hdA x).size)) ps r
   rw[hz]
   exact h3
theorem q2S{place:Nat→Option (Nat × Nat)}{zs r:List Value}{i o:Nat}{x:BlkM}{ps:List (Nat × Value)}(hx:j0M x.h)(h1:place i=some (o,137))(h2:o+137≤zs.length)(h3:j2T place (zs.take o++j04 x++zs.drop (o+137)) ps r):j2T place zs ((i,j1O x)::ps) r:=by
 have hz:(j0L x).size=137:=j0O hx
 refine⟨o,?_,?_,?_⟩
 · show place i=some (o,(j0L x).size)
   rw[hz,h1]
 · show o+(j0L x).size≤zs.length
   rw[hz]
   exact h2
 · show j2T place (zs.take o++j04 x++zs.drop (o+(j0L x).size)) ps r
   rw[hz]
   exact h3
theorem j41{place:Nat→Option (Nat × Nat)}{zs r:List Value}{i o:Nat}{v:Value}{ps:List (Nat × Value)}(hv:v.cells= #[v])(h1:place i=some (o,1))(h2:o+1≤zs.length)(h3:j2T place (zs.take o++[v]++zs.drop (o+1)) ps r):j2T place zs ((i,v)::ps) r:=by
 refine⟨o,?_,?_,?_⟩
 · rw[hv];exact h1
 · rw[hv];exact h2
 · rw[hv];exact h3
theorem q6L{x y z:List Int}{n:Nat}(hx:x.length=32)(hy:y.length=32)(hz:z.length=32):Tryz.prog.built 34 [(2,idv x),(3,idv y),(4,idv z),(6, .int .u32 (n:Int))]=some (hdA ⟨0,z32,x,y,z,0,n,0⟩):=by
 have l0:(hdC j2H).length=135:=j2e (h:=j2H) j1k
 have p1:=q1P (h:=j2H) j1k x []
 have k1:j0M {j2H with links:=x}:=⟨rfl,hx,rfl,rfl⟩
 have p2:=q8A k1 y []
 have k2:j0M {j2H with links:=x,txs:=y}:=⟨rfl,hx,hy,rfl⟩
 have p3:=q4z k2 z []
 have k3:j0M {j2H with links:=x,txs:=y,past:=z}:=⟨rfl,hx,hy,hz⟩
 have p4:=q48 k3 n []
 simp only[List.append_nil]at p1 p2 p3 p4
 refine j3P (cs:=hdC j2H) underlying34 (by kernel_rfl) (places:=[(0,1),(1,32),(33,32),(65,32),(97,32),(129,4),(133,1),(134,1)]) (by kernel_rfl) ?_
 refine q1E (o:=33) hx rfl (by rw[l0];decide) ?_
 rw[p1]
 refine q1E (o:=65) hy rfl (by rw[j2e k1];decide) ?_
 rw[p2]
 refine q1E (o:=97) hz rfl (by rw[j2e k2];decide) ?_
 rw[p3]
 refine j41 (o:=133) rfl rfl (by rw[j2e k3];decide) ?_
 rw[p4]
 rfl
theorem j9x{h h':Hd}(k:j0M h)(r:List Value):(hdC h++r).take 0++hdC h'++(hdC h++r).drop (0+135)=hdC h'++r:=by
 rw[List.take_zero,List.nil_append,Nat.zero_add,List.drop_left' (j2e k)]
theorem q1p{a r s:List Value}{v:Value}{n:Nat}(ha:a.length=n)(hr:r.length=1):(a++(r++s)).take n++[v]++(a++(r++s)).drop (n+1)=a++([v]++s):=j4P ha hr
theorem q4v{h:Hd}(k:j0M h):Tryz.prog.built 37 [(0,hdV h)]=some (j0L ⟨h,[],none,0,0,[],none,0,0⟩):=by
 refine j3P (cs:=j04 noBlkM) underlying37 (by kernel_rfl) (places:=[(0,135),(135,1),(136,1)]) (by kernel_rfl) ?_
 refine q6T (o:=0) k rfl (by rw[j0y (b:=noBlkM) j1k];decide) ?_
 show j2T _ ((hdC j2H++_).take 0++hdC h++(hdC j2H++_).drop (0+135)) _ _
 rw[j9x j1k]
 rfl
theorem j7q{b:BlkM}(k:j0M b.h):Tryz.prog.built 37 [(0,hdV b.h),(1,Value.slice b.A1 b.n1 b.c1),(2,Value.slice b.A2 b.n2 b.c2)]=some (j0L b):=by
 have l1: ∀x y:Value,(hdC b.h++[x,y]).length=137:=fun x y=>by rw[lA,j2e k];rfl
 refine j3P (cs:=j04 noBlkM) underlying37 (by kernel_rfl) (places:=[(0,135),(135,1),(136,1)]) (by kernel_rfl) ?_
 refine q6T (o:=0) k rfl (by rw[j0y (b:=noBlkM) j1k];decide) ?_
 show j2T _ ((hdC j2H++[Value.slice none 0 0,Value.slice none 0 0]).take 0++hdC b.h++(hdC j2H++[Value.slice none 0 0,Value.slice none 0 0]).drop (0+135)) _ _
 rw[j9x j1k]
 refine j41 (o:=135) rfl rfl (by rw[l1];decide) ?_
 rw[show hdC b.h++[Value.slice none 0 0,Value.slice none 0 0]=hdC b.h++([Value.slice none 0 0]++[Value.slice none 0 0])from rfl,q1p (j2e k) rfl]
 refine j41 (o:=136) rfl rfl (by rw[show hdC b.h++([Value.slice b.A1 b.n1 b.c1]++[Value.slice none 0 0])=hdC b.h++[Value.slice b.A1 b.n1 b.c1,Value.slice none 0 0]from rfl,l1];decide) ?_
 rw[show hdC b.h++([Value.slice b.A1 b.n1 b.c1]++[Value.slice none 0 0])=(hdC b.h++[Value.slice b.A1 b.n1 b.c1])++([Value.slice none 0 0]++[])by rw[List.append_nil,aA],q1p (by rw[lA,j2e k];rfl) rfl]
 show _=j04 b
 unfold j04
 rw[List.append_nil,aA]
 rfl
theorem q3C{b b':BlkM}(k:j0M b.h)(r:List Value):(j04 b++r).take 0++j04 b'++(j04 b++r).drop (0+137)=j04 b'++r:=by
 rw[List.take_zero,List.nil_append,Nat.zero_add,List.drop_left' (j0y k)]
theorem q4Z{b:BlkM}{p:List Tot}{A:Option Addr}{n c:Nat}(k:j0M b.h):Tryz.prog.built 41 [(0,j1O b),(1,Value.slice A n c)]=some (j0j ⟨b,p,A,n,c,[],none,0,0⟩):=by
 have l1: ∀x y:Value,(j04 b++[x,y]).length=139:=fun x y=>by rw[lA,j0y k];rfl
 refine j3P (cs:=q1v noTipM) underlying41 (by kernel_rfl) (places:=[(0,137),(137,1),(138,1)]) (by kernel_rfl) ?_
 refine q2S (o:=0) k rfl (by rw[j6Y (t:=noTipM) j1k];decide) ?_
 show j2T _ ((j04 noBlkM++[Value.slice none 0 0,Value.slice none 0 0]).take 0++j04 b++(j04 noBlkM++[Value.slice none 0 0,Value.slice none 0 0]).drop (0+137)) _ _
 rw[q3C (b:=noBlkM) j1k]
 refine j41 (o:=137) rfl rfl (by rw[l1];decide) ?_
 rw[show j04 b++[Value.slice none 0 0,Value.slice none 0 0]=j04 b++([Value.slice none 0 0]++[Value.slice none 0 0])from rfl,q1p (j0y k) rfl]
 rfl
theorem q0k{t:TipM}(k:j0M t.b.h):Tryz.prog.built 41 [(0,j1O t.b),(1,Value.slice t.A3 t.n3 t.c3),(2,Value.slice t.A4 t.n4 t.c4)]=some (j0j t):=by
 have l1: ∀x y:Value,(j04 t.b++[x,y]).length=139:=fun x y=>by rw[lA,j0y k];rfl
 refine j3P (cs:=q1v noTipM) underlying41 (by kernel_rfl) (places:=[(0,137),(137,1),(138,1)]) (by kernel_rfl) ?_
 refine q2S (o:=0) k rfl (by rw[j6Y (t:=noTipM) j1k];decide) ?_
 show j2T _ ((j04 noBlkM++[Value.slice none 0 0,Value.slice none 0 0]).take 0++j04 t.b++(j04 noBlkM++[Value.slice none 0 0,Value.slice none 0 0]).drop (0+137)) _ _
 rw[q3C (b:=noBlkM) j1k]
 refine j41 (o:=137) rfl rfl (by rw[l1];decide) ?_
 rw[show j04 t.b++[Value.slice none 0 0,Value.slice none 0 0]=j04 t.b++([Value.slice none 0 0]++[Value.slice none 0 0])from rfl,q1p (j0y k) rfl]
 refine j41 (o:=138) rfl rfl (by rw[show j04 t.b++([Value.slice t.A3 t.n3 t.c3]++[Value.slice none 0 0])=j04 t.b++[Value.slice t.A3 t.n3 t.c3,Value.slice none 0 0]from rfl,l1];decide) ?_
 rw[show j04 t.b++([Value.slice t.A3 t.n3 t.c3]++[Value.slice none 0 0])=(j04 t.b++[Value.slice t.A3 t.n3 t.c3])++([Value.slice none 0 0]++[])by rw[List.append_nil,aA],q1p (by rw[lA,j0y k];rfl) rfl]
 show _=q1v t
 unfold q1v
 rw[List.append_nil,aA]
 rfl
theorem j56:Tryz.prog.built 37 []=some (j0L noBlkM):=by kernel_rfl
theorem j3Z:Tryz.prog.built 41 []=some (j0j noTipM):=by kernel_rfl
theorem x1u:j3C z32:=⟨rfl,fun y hy=>by rw[List.eq_of_mem_replicate hy];decide⟩
theorem j4D(h:Hd):j3C (idH h):=by
 unfold idH
 split
 · exact q1I _
 · exact x1u
theorem j8X(h:Hd):j5c h<Big:=by
 unfold j5c
 split
 · exact x38 _
 · unfold Big;decide
theorem q4N(h:Hd):I64 (j1g h):=by
 unfold j1g I64
 split
 · split
   · omega
   · have:=x34 (x4u (idH h)) (tv h.bits)
     omega
 · omega
theorem j5t(h:Hd):okT (j0C h):=⟨j4D h,j8X h,by show-9223372036854775808≤(1:Int);omega,by show (1:Int)≤_;omega⟩
theorem q63(x:Int):I64 (IntKind.i64.wrap x):=by
 unfold I64
 rw[IntKind.wrap_i64]
 omega
theorem j9e{t:TipR}(l:List TxR){nonce:Nat}(hp:okTs t.p)(hb:t.b.h.bits<4294967296)(hn:nonce<18446744073709551616):okHd (j05 t l nonce):=
 ⟨q63 _,j4D _,j3t (j3w _),j3t (j5W _),(q2p hp).1,(q2p hp).2.1,hb,hn⟩
theorem j8F{t:TipR}(hl:isIds t.b.l):isIds (j0H t):=q9z hl (j4D _)
theorem j6e(t:TipR):(j0H t).length≤32:=q92
theorem x1I{α:Type}(d:α){l:List α}{j:Nat}(h:j<l.length):l.getD j d=l[j]:=by
 rw[gD,gE h]
 rfl
theorem x1V{cs:List Value}{L:List (List Value)}{z n j:Nat}(hL:isRows z L)(hn:L.length=n)(hc:cs.take (n*z)=L.flatten)(hj:j<n):(cs.drop (0+j*z)).take z=L.getD j []:=by
 have h1:j*z+z≤n*z:=by
  have:=Nat.mul_le_mul_right z (show j+1≤n from hj)
  rwa[Nat.succ_mul]at this
 have e:(cs.drop (0+j*z)).take z=((cs.take (n*z)).drop (j*z)).take z:=by
  rw[Nat.zero_add,List.drop_take,List.take_take,Nat.min_eq_left (by omega)]
 rw[e,hc,←hL.flat_drop]
 have hlt:j<L.length:=by omega
 rw[List.drop_eq_getElem_cons hlt,List.flatten_cons,List.take_left' (hL _ (List.getElem_mem hlt)),x1I [] hlt]
theorem q70{cs:List Value}{L:List (List Value)}{z n k:Nat}{v:List Value}(hL:isRows z L)(hn:L.length=n)(hc:cs.take (n*z)=L.flatten)(hk:k<n)(hv:v.length=z):
  (cs.take (0+k*z)++v++cs.drop (0+k*z+z)).take (n*z)=(L.set k v).flatten:=by
 have h1:k*z+z≤n*z:=by
  have:=Nat.mul_le_mul_right z (show k+1≤n from hk)
  rwa[Nat.succ_mul]at this
 have hF:L.flatten.length=n*z:=by rw[hL.flat_len,hn]
 obtain⟨R,hR⟩: ∃R,cs=L.flatten++R:=⟨cs.drop (n*z),by rw[←hc,List.take_append_drop]⟩
 have hlt:k<L.length:=by omega
 have es:(L.set k v).flatten=L.flatten.take (k*z)++v++L.flatten.drop (k*z+z):=by
  rw[List.set_eq_take_append_cons_drop,if_pos hlt,List.flatten_append,List.flatten_cons,hL.flat_take,hL.flat_drop,Nat.succ_mul,aA]
 have hta:(L.flatten++R).take (k*z)=L.flatten.take (k*z):=List.take_append_of_le_length (by omega)
 have hda:(L.flatten++R).drop (k*z+z)=L.flatten.drop (k*z+z)++R:=List.drop_append_of_le_length (by omega)
 rw[es,Nat.zero_add,hR,hta,hda,←aA]
 refine List.take_left' ?_
 rw[lA,lA,List.length_take,List.length_drop,hF,hv]
 omega
theorem j74{cs:List Value}{z n k c:Nat}{v:List Value}(hk:k<n)(hn:n≤c)(hv:v.length=z)(hc:cs.length=c*z):(cs.take (0+k*z)++v++cs.drop (0+k*z+z)).length=c*z:=by
 have h1:k*z+z≤c*z:=by
  have:=Nat.mul_le_mul_right z (show k+1≤c by omega)
  rwa[Nat.succ_mul]at this
 rw[lA,lA,List.length_take,List.length_drop,hv,hc]
 omega
section
variable {a:Act}{dst:Option Tmp}{x y:Operand}{ty:TypeId}{pos:String}{after:Array Edge}{gd:Option (Nat × Bool)}
theorem j7W{t e:TypeId}{z:Nat}(hu:Tryz.prog.underlying t=some (.slice e))(hz:(Tryz.prog.info? e).map (·.size)=some z){g n c i:Nat}(hi:i<n)(u:World)
  (hx:a.eval x= .slice (some ⟨g,0,none⟩) n c) (hy:a.eval y= .int .i64 (i:Int)):
  (execOp a.eval ⟨dst, .indexAddr t x y,ty,pos,after,gd⟩).run Tryz.prog u= .ok (.value (.pointer (some ⟨g,0+i*z,none⟩))) u:=by
 have h:=j0h (dst:=dst) (ty:=ty) (pos:=pos) (after:=after) (gd:=gd) hu hz hi u hx hy
 rwa[Addr.add_mid]at h
end
theorem j98{w u:World}{ad:Addr}{ys:List Value}(h:CellsIn w w.heap.size (some ad) ys)(hb:Below w.heap.size w u):j53 u ad ys:=fun j c hc=>by
 have hp:0<ys.length:=by
  rcases Nat.eq_zero_or_pos ys.length with h0|h0
  · rw[List.eq_nil_of_length_eq_zero h0]at hc
    simp at hc
  · exact h0
 obtain⟨ad',e,hlt,hcc⟩:=h hp
 obtain rfl:=Option.some.inj e
 have hbl:(ad.add j).block=ad.block:=by unfold Addr.add;split<;>rfl
 exact(hb.cell (p:=ad.add j) (by rw[hbl];exact hlt)).trans (hcc j c hc)
theorem j6v{ty:TypeId}{z:Nat}(hs:(Tryz.prog.info? ty).map (·.size)=some z){v old cs:Array Value}{k:Nat}(hv:v.size=z)(h1:v.all (·.oneCell')=true)(hk:k+z≤old.size)(hcs:cs.toList=old.toList.take k++v.toList++old.toList.drop (k+z)):
  (Tryz.prog.info? ty).map (·.size)=some (Value.agg v).cells.size∧k+(Value.agg v).cells.size≤old.size∧(Value.agg v).cells.all (·.oneCell')=true∧old.toList.take k++(Value.agg v).cells.toList++old.toList.drop (k+(Value.agg v).cells.size)=cs.toList:=by
 have hz:(Value.agg v).cells.size=z:=hv
 refine⟨by rw[hz];exact hs,by rw[hz];exact hk,h1,?_⟩
 rw[hz,hcs]
 rfl
theorem x4I:ElemT 35 26 32 32 (.agg (j0d 32 [])):=⟨underlying35,by kernel_rfl,j0c _ _ (by simp),by decide,by decide,by decide⟩
theorem q8J{l:List (List Int)}(h:isIds l):isRows 32 (l.map (·.map u8v)):=fun x hx=>by
 obtain⟨y,hy,rfl⟩:=List.mem_map.1 hx
 rw[lM]
 exact(h y hy).1
theorem q2W(l:List (List Int)):(l.map (·.map u8v)).flatten=l.flatten.map u8v:=by rw[List.map_flatten]
theorem x1Q{xs:List Int}: ∀u∈xs.map u8v,u.oneCell'=true:=fun u hu=>by
 obtain⟨z,_,rfl⟩:=List.mem_map.1 hu
 rfl
theorem q5e{X:List (List Int)}{id:List Int}{n k cap:Nat}{cur:Array Value}(hX:isIds X)(hl:X.length=n)(hid:id.length=32)(hk:k<n)(h1:n≤cap)(hs:cur.size=cap*32)(hc:cur.toList.take (n*32)=X.flatten.map u8v):
  ∃cs:Array Value,((Tryz.prog.info? 26).map (·.size)=some (Value.agg (j0d 32 id)).cells.size∧0+k*32+(Value.agg (j0d 32 id)).cells.size≤cur.size∧(Value.agg (j0d 32 id)).cells.all (·.oneCell')=true∧cur.toList.take (0+k*32)++(Value.agg (j0d 32 id)).cells.toList++cur.toList.drop (0+k*32+(Value.agg (j0d 32 id)).cells.size)=cs.toList)∧
   cs.size=cap*32∧cs.toList.take (n*32)=(X.set k id).flatten.map u8v:=by
 have hz:(j0d 32 id).size=32:=j0c _ _ (by omega)
 have hcl:cur.toList.length=cap*32:=by rw[Array.length_toList,hs]
 have hv:(id.map u8v).length=32:=by rw[lM,hid]
 have hr:=q70 (cs:=cur.toList) (L:=X.map (·.map u8v)) (z:=32) (n:=n) (k:=k) (v:=id.map u8v) (q8J hX) (by rw[lM,hl]) (by rw[q2W];exact hc) hk hv
 have hln:=j74 (cs:=cur.toList) (z:=32) (n:=n) (k:=k) (c:=cap) (v:=id.map u8v) hk h1 hv hcl
 obtain⟨cs,hcs⟩: ∃cs:Array Value,cs.toList=cur.toList.take (0+k*32)++id.map u8v++cur.toList.drop (0+k*32+32):=⟨_,List.toList_toArray⟩
 rw[←hcs]at hr hln
 refine⟨cs,j6v aggIdT.size hz (j0Q _ _) (by rw[hs];omega) (by rw[hcs,j1F hid]),by rw[←Array.length_toList];exact hln,?_⟩
 rw[hr,←q2W,List.map_set]
def x4q(w:World)(id:List Int)(X:List (List Int))(v:Value)(u:World):Prop:= ∃N,FreshI X v N∧j01 w N [(w.heap.size,oc (j0d 32 id) 26)]∧EnvX w u (N++[(w.heap.size,oc (j0d 32 id) 26)])
theorem j8L{l:List (List Int)}{n c:Nat}{A:Option Addr}{N:j0e}{u:World}(h:FreshR 26 32 n (l.flatten.map u8v) (.slice A n c) N)(hI:isIds l)(hN: ∀y∈N,u.heap[y.1]?=some y.2)(hl:l.length=n:=by rfl):IdsIn u u.heap.size A l:=
 OwnI.ids (B:=0) (by subst hl;exact FreshR.own h (by rw[lM];exact hI.flat_len) (fun y hy=>⟨Nat.zero_le _,hN y hy⟩))
theorem j5m{l:List Tot}{n c:Nat}{A:Option Addr}{N:j0e}{u:World}(h:FreshR 61 37 n (l.map j11).flatten (.slice A n c) N)(hl:l.length=n)(ho:okTs l)(hN: ∀y∈N,u.heap[y.1]?=some y.2):TotsIn u u.heap.size A l:=
 j2k (h.own (B:=0) (by rw[j2x ho,hl]) (fun y hy=>⟨Nat.zero_le _,hN y hy⟩))
theorem q2F(t s:TxM)(w:World)(ht:TxOk w t)(hs:TxOk w s):Rz 143 #[txV t,txV s] w (.bool (j4g t.r s.r)):=by
 unfold Rz
 obtain⟨r,A1,n1,c1,A2,n2,c2⟩:=t
 obtain⟨q,B1,m1,d1,B2,m2,d2⟩:=s
 exact q5m r A1 n1 c1 A2 n2 c2 q B1 m1 d1 B2 m2 d2 w ht hs
theorem j9z{l:List TxM}{i:Nat}(h:i<l.length):(rsT l).getD i j8a=(l.getD i j0A).r:=by
 unfold rsT
 rw[gD,List.getElem?_map,gD,gE h]
 rfl
theorem q2f{l q:List TxM}(hl:l.length=q.length)(h: ∀j,j<l.length→(l.getD j j0A).r=(q.getD j j0A).r):rsT l=rsT q:=by
 unfold rsT
 refine List.ext_getElem (by rw[lM,lM,hl]) fun j h1 h2=>?_
 rw[lM]at h1 h2
 have:=h j h1
 rw[gD,gD,gE h1,gE h2]at this
 rw[List.getElem_map,List.getElem_map]
 exact this
theorem x0d(b d:BlkM):decide (b.r=d.r)=(decide (b.l=d.l) && (decide (rsT b.t=rsT d.t) && eqH b.h d.h)):=by
 unfold eqH
 rw[Bool.eq_iff_iff]
 simp only[decide_eq_true_eq,Bool.and_eq_true,BlkM.r,BlkR.mk.injEq]
 exact⟨fun h=>⟨h.2.1,h.2.2,h.1⟩,fun h=>⟨h.2.2,h.1,h.2.1⟩⟩
theorem q9V(t s:TipM):decide (t.r=s.r)=(decide (t.b.r=s.b.r) && (decide (t.p=s.p) && j6E t.c s.c)):=by
 unfold j6E
 rw[Bool.eq_iff_iff]
 simp only[decide_eq_true_eq,Bool.and_eq_true,TipM.r,TipR.mk.injEq]
theorem q14(l q:List TxM)(A A':Option Addr)(n c m c':Nat)(w:World)(hl:l.length=n)(hn:n≤1000000)(hA:TxsIn w A l)(hl':q.length=m)(hm:m≤1000000)(hA':TxsIn w A' q):
  Rz 92 #[.slice A n c, .slice A' m c'] w (.bool (decide (rsT l=rsT q))):=by
 unfold Rz
 have HL:=hD hl
 have HL':=hD hl'
 have HAA:=hD hA
 have HAA':=hD hA'
 have HN63:Hid (n<9223372036854775808):=by show _<_;omega
 have HM63:Hid (m<9223372036854775808):=by show _<_;omega
 have HXS:Hid (∀(t s:TxM)(u:World),EnvX w u []→TxOk w t→TxOk w s→Calls Tryz.prog 143 #[txV t,txV s] u fun e w'=>e= .returned (.bool (j4g t.r s.r))∧Below u.heap.size u w'):=fun t s u hu k1 k2=>q2F t s u (k1.up (EnvX.bel hu)) (k2.up (EnvX.bel hu))
 have E1:Hid (EnvX w w []):=EnvX.start w
 clear hl hn hA hl' hm hA'
 by_cases d4:n=m
 case neg=>
  have D4:Hid (decide ((n:Int)≠(m:Int))=true):=decide_eq_true (by omega)
  have HF:Hid (decide (rsT l=rsT q)=false):=decide_eq_false fun e=>d4 (by have h:=congrArg List.length e;unfold rsT at h;rw[lM,lM,HL.out,HL'.out]at h;exact h)
  clear d4
  go_enter func92,ntmps92
  go_upto_region 1 with (fail)
  refine rgQ [0,1,2,3,4] [] E1 rfl fun hw=>?_
  refine qo rfl hw ?_
  refine qv rfl (fun u hu=>j0l underlying23 HN63.out u rfl) hw ?_
  refine qo rfl hw ?_
  refine qv rfl (fun u hu=>j0l underlying23 HM63.out u rfl) hw ?_
  refine qv rfl (fun u hu=>j36 u D4.out rfl rfl) hw ?_
  refine enP fun u3 EX2=>?_
  go_upto_region 2 with (fail)
  refine rgQ [0] [] EX2 rfl fun hw=>?_
  refine qo rfl hw ?_
  refine enP fun u6 EX5=>?_
  have HBE:=hD (EnvX.bel EX5.out)
  go_wp2
  go_ret
  exact⟨by rw[HF.out];first|done|rfl,HBE.out⟩
 have D4:Hid (decide ((n:Int)≠(n:Int))=false):=decide_eq_false (by omega)
 subst d4
 go_enter func92,ntmps92
 go_upto_region 1 with (fail)
 refine rgQ [0,1,2,3,4] [] E1 rfl fun hw=>?_
 refine qo rfl hw ?_
 refine qv rfl (fun u hu=>j0l underlying23 HN63.out u rfl) hw ?_
 refine qo rfl hw ?_
 refine qv rfl (fun u hu=>j0l underlying23 HM63.out u rfl) hw ?_
 refine qv rfl (fun u hu=>j36 u D4.out rfl rfl) hw ?_
 refine enP fun u3 EX2=>?_
 go_upto_region 3 with (fail)
 refine rgQ [0] [] EX2 rfl fun hw=>?_
 refine qo rfl hw ?_
 refine enP fun u6 EX5=>?_
 have EJ:=hD EX5.out
 clear EX5 E1
 go_upto_region 4 with (fail)
 go_loopw [5] (fun iv u=> ∃i:Nat,i≤n∧iv= .int .i64 (i:Int)∧Hid ((∀j,j<i→(l.getD j j0A).r=(q.getD j j0A).r)∧EnvX w u [])) (fun iv _=>n- (intOf iv).toNat)
 case atStart=>exact⟨0,by omega,rfl,(fun j hj=>by omega),EJ.out⟩
 case round=>
  obtain⟨i,hi,rfl,hinv⟩:=hrel
  have H1:=hD hinv.out.1
  have EK:=hD hinv.out.2
  clear hinv EJ
  by_cases hlt:i<n
  · have C2:Hid (decide ((i:Int)<(n:Int))=true):=decide_eq_true (by omega)
    have HI:=hD hlt
    have hil:i<l.length:=by rw[HL.out];exact hlt
    have hil':i<q.length:=by rw[HL'.out];exact hlt
    obtain⟨ad,rfl,-,hld⟩:=HAA.out.loads hil
    obtain⟨ad',rfl,-,hld'⟩:=HAA'.out.loads hil'
    have HLD:=hD (And.intro hld hld')
    have HTX:Hid (TxOk w (l.getD i j0A)∧TxOk w (q.getD i j0A)):=⟨HAA.out.get hil,HAA'.out.get hil'⟩
    obtain⟨x,hx⟩: ∃x,l.getD i j0A=x:=⟨_,rfl⟩
    obtain⟨y,hy⟩: ∃y,q.getD i j0A=y:=⟨_,rfl⟩
    have HXY:=hD (And.intro hx hy)
    rw[hx,hy]at HLD HTX
    obtain⟨b,hb⟩: ∃b,j4g x.r y.r=b:=⟨_,rfl⟩
    have HEQ:=hD hb
    clear hld hld' hil hil' hlt hx hy hb
    go_upto_region 4 with (fail)
    refine rgQ [0,1,2,3] [] EK rfl fun hw=>?_
    refine qw 2 hw ?_
    refine qv rfl (fun u hu=>j0l underlying23 HN63.out u rfl) hw ?_
    refine qv rfl (fun u hu=>j0o u C2.out rfl rfl) hw ?_
    refine enP fun u23 EX22=>?_
    go_upto_region 6 with (fail)
    refine rgK [0,1,2,3,4,5,6,7,8,9] 0 EX22 rfl fun hw=>?_
    refine qw 2 hw ?_
    refine qv rfl (fun u hu=>j0h underlying23 aggTx.size HI.out u rfl rfl) hw ?_
    refine qv rfl (fun u hu=>j0a u (HLD.out.1 u (nl hu)).1 rfl) hw ?_
    refine qw 2 hw ?_
    refine qv rfl (fun u hu=>j0h underlying23 aggTx.size HI.out u rfl rfl) hw ?_
    refine qv rfl (fun u hu=>j0a u (HLD.out.2 u (nl hu)).1 rfl) hw ?_
    refine qc (args:= #[txV x,txV y]) (v:= .bool b) rfl func143 (fun u hu=>by have h:=HXS.out x y u (nl hu) HTX.out.1 HTX.out.2;rw[HEQ.out]at h;exact h) hw ?_
    refine qo rfl hw ?_
    refine eH fun u26 EX25=>?_
    cases b with
    | false=>
     have HF:Hid (decide (rsT l=rsT q)=false):=decide_eq_false fun e=>by
      have h:(rsT l).getD i j8a=(rsT q).getD i j8a:=congrArg (fun z:List TxR=>z.getD i j8a) e
      have e1:=j9z (l:=l) (i:=i) (by rw[HL.out];exact HI.out)
      have e2:=j9z (l:=q) (i:=i) (by rw[HL'.out];exact HI.out)
      rw[e1,e2,HXY.out.1,HXY.out.2]at h
      exact of_decide_eq_false HEQ.out h
     go_upto_region 7 with (fail)
     refine rgQ [0,1] [] EX25 rfl fun hw=>?_
     refine qw 2 hw ?_
     refine enP fun u29 EX28=>?_
     go_upto_region 8 with (fail)
     refine rgQ [0] [] EX28 rfl fun hw=>?_
     refine qo rfl hw ?_
     refine enP fun u32 EX31=>?_
     have HBE:=hD (EnvX.bel EX31.out)
     go_wp2
     go_ret
     exact⟨by rw[HF.out];first|done|rfl,HBE.out⟩
    | true=>
     have H3:Hid (∀j,j<i+1→(l.getD j j0A).r=(q.getD j j0A).r):=fun j hj=>by
      rcases Nat.lt_or_ge j i with h|h
      · exact H1.out j h
      · rw[show j=i by omega,HXY.out.1,HXY.out.2];exact of_decide_eq_true HEQ.out
     go_upto_region 7 with (fail)
     refine rgQ [0,1] [] EX25 rfl fun hw=>?_
     refine qw 2 hw ?_
     refine enP fun u29 EX28=>?_
     have hii:=HI.out
     have hn:=HN63.out
     go_wp2
     go_roundw
     case rel=>exact⟨i+1,by omega,by go_num,H3.out,EX28.out⟩
     case measure=>simp[intOf];omega
  · obtain rfl:i=n:=by omega
    have C2:Hid (decide ((i:Int)<(i:Int))=false):=decide_eq_false (by omega)
    have HF:Hid (decide (rsT l=rsT q)=true):=decide_eq_true (q2f (by rw[HL.out,HL'.out]) (by rw[HL.out];exact H1.out))
    go_upto_region 4 with (fail)
    refine rgQ [0,1,2,3] [] EK rfl fun hw=>?_
    refine qw 2 hw ?_
    refine qv rfl (fun u hu=>j0l underlying23 HN63.out u rfl) hw ?_
    refine qv rfl (fun u hu=>j0o u C2.out rfl rfl) hw ?_
    refine enP fun u203 EX202=>?_
    go_upto_region 9 with (fail)
    refine rgQ [0] [] EX202 rfl fun hw=>?_
    refine qo rfl hw ?_
    refine enP fun u206 EX205=>?_
    have HBE:=hD (EnvX.bel EX205.out)
    go_wp2
    go_ret
    exact⟨by rw[HF.out];first|done|rfl,HBE.out⟩
theorem q4J(b d:BlkM)(w:World)(kb:BlkOk w b)(mb:j2c b)(kd:BlkOk w d)(md:j2c d):
  Rz 42 #[j1O b,j1O d] w (.bool (decide (b.r=d.r))):=by
 unfold Rz
 have HKB:Hid (okHd b.h):=kb.h
 have HKD:Hid (okHd d.h):=kd.h
 have HS:=hD (x0d b d)
 have m1:=mb.1
 have m2:=md.1
 have m3:=mb.2.1
 have m4:=md.2.1
 have l1:=kb.l1
 have l2:=kd.l1
 have l3:=kb.l2
 have l4:=kd.l2
 have HIDS:Hid (Rt w 91 #[.slice b.A1 b.n1 b.c1, .slice d.A1 d.n1 d.c1] (.bool (decide (b.l=d.l)))):=fun u hu=>q9j b.l d.l b.A1 d.A1 b.n1 b.c1 d.n1 d.c1 u kb.l1 kd.l1 (by omega) (by omega) kb.b1.1 kb.b1.2 kd.b1.1 kd.b1.2 kb.o1 kd.o1 (kb.m1.up (EnvX.bel hu)) (kd.m1.up (EnvX.bel hu))
 have HLST:Hid (Rt w 92 #[.slice b.A2 b.n2 b.c2, .slice d.A2 d.n2 d.c2] (.bool (decide (rsT b.t=rsT d.t)))):=fun u hu=>q14 b.t d.t b.A2 d.A2 b.n2 b.c2 d.n2 d.c2 u kb.l2 (by omega) (kb.m2.up (EnvX.bel hu)) kd.l2 (by omega) (kd.m2.up (EnvX.bel hu))
 obtain⟨b1,hb1⟩: ∃b1,decide (b.l=d.l)=b1:=⟨_,rfl⟩
 obtain⟨b2,hb2⟩: ∃b2,decide (rsT b.t=rsT d.t)=b2:=⟨_,rfl⟩
 obtain⟨b3,hb3⟩: ∃b3,eqH b.h d.h=b3:=⟨_,rfl⟩
 rw[hb1]at HIDS HS
 rw[hb2]at HLST HS
 rw[hb3]at HS
 have HB3:=hD hb3
 have E1:Hid (EnvX w ((w.alloc (.cells (j0L b) 37)).alloc (.cells (j0L d) 37)) [(w.heap.size+1,oc (j0L d) 37),(w.heap.size,oc (j0L b) 37)]):=(EnvX.start w).two _ _
 clear kb mb kd md m1 m2 m3 m4 l1 l2 l3 l4 hb1 hb2 hb3
 unfold j1O
 go_enter func42,ntmps42
 go_upto_region 1 with (fail)
 generalize (w.alloc (.cells (j0L b) 37)).alloc (.cells (j0L d) 37)=W at *
 refine rgQ [0,1,2,3,4,5] [] E1 rfl fun hw=>?_
 refine qf rfl hw ?_
 refine ql rfl (mT mH) HKB.out.len hw ?_
 refine qf rfl hw ?_
 refine ql rfl mH HKD.out.len hw ?_
 refine qc rfl func91 (fun u hu=>HIDS.out u (nl hu)) hw ?_
 refine qo rfl hw ?_
 refine enP fun u3 EX2=>?_
 go_upto_region 2 with (fail)
 refine rgQ [0,1,2,3,4,5] [] EX2 rfl fun hw=>?_
 refine qf rfl hw ?_
 refine ql rfl (mT mH) HKB.out.len hw ?_
 refine qf rfl hw ?_
 refine ql rfl mH HKD.out.len hw ?_
 refine qc rfl func92 (fun u hu=>HLST.out u (nl hu)) hw ?_
 refine qo rfl hw ?_
 refine enP fun u6 EX5=>?_
 cases b1 with
 |false=>
  have HF:Hid (decide (b.r=d.r)=false):=HS.out
  go_upto_region 3 with (fail)
  refine rgQ [0,1,2,3,4,5,6,7,8,9,10,11] [] EX5 rfl fun hw=>?_
  refine qw 12 hw ?_
  refine enP fun u9 EX8=>?_
  have HBE:=hD (EnvX.bel EX8.out)
  go_wp2
  go_ret
  exact⟨by rw[HF.out];first|done|rfl,HBE.out⟩
 | true=>
  cases b2 with
  |false=>
   have HF:Hid (decide (b.r=d.r)=false):=HS.out
   go_upto_region 3 with (fail)
   refine rgQ [0,1,2,3,4,5,6,7,8,9,10,11] [] EX5 rfl fun hw=>?_
   refine qw 12 hw ?_
   refine enP fun u9 EX8=>?_
   have HBE:=hD (EnvX.bel EX8.out)
   go_wp2
   go_ret
   exact⟨by rw[HF.out];first|done|rfl,HBE.out⟩
  |true=>
   have HF:Hid (decide (b.r=d.r)=b3):=HS.out
   go_upto_region 3 with (fail)
   refine rgQ [0,1,2,3,4,5,6,7,8,9,10,11] [] EX5 rfl fun hw=>?_
   refine qw 6 hw ?_
   refine qv rfl (fun u hu=>j0a u (j0B HKB.out.len (j02 hu (mT mH) HKB.out.len)).1 rfl) hw ?_
   refine qf rfl hw ?_
   refine qv rfl (fun u hu=>j0a u (j0B HKD.out.len (j02 hu mH HKD.out.len)).1 rfl) hw ?_
   refine qv rfl (fun u hu=>j63 HKB.out HKD.out HB3.out u rfl rfl) hw ?_
   refine qw 2 hw ?_
   refine enP fun u9 EX8=>?_
   have HBE:=hD (EnvX.bel EX8.out)
   go_wp2
   go_ret
   exact⟨by rw[HF.out];first|done|rfl,HBE.out⟩
theorem q4D(t s:TipM)(w:World)(kt:TipOk w t)(mt:j3f t∧j3W t.b.t)(ks:TipOk w s)(ms:j3f s∧j3W s.b.t):
  Rz 19 #[j29 t,j29 s] w (.bool (decide (t.r=s.r))):=by
 unfold Rz
 have HKT:Hid (j0M t.b.h):=kt.b.h.len
 have HKS:Hid (j0M s.b.h):=ks.b.h.len
 have HS:=hD (q9V t s)
 have m1:=mt.1.2.1
 have m2:=ms.1.2.1
 have l1:=kt.l3
 have l2:=ks.l3
 have HBS:Hid (Rt w 42 #[j1O t.b,j1O s.b] (.bool (decide (t.b.r=s.b.r)))):=fun u hu=>q4J t.b s.b u (kt.b.up (EnvX.bel hu)) ⟨mt.1.1,mt.2⟩ (ks.b.up (EnvX.bel hu)) ⟨ms.1.1,ms.2⟩
 have HMS:Hid (Rt w 48 #[.slice t.A3 t.n3 t.c3, .slice s.A3 s.n3 s.c3] (.bool (decide (t.p=s.p)))):=fun u hu=>q4q t.p s.p t.A3 s.A3 t.n3 t.c3 s.n3 s.c3 u kt.l3 ks.l3 (by omega) (by omega) kt.b3.1 kt.b3.2 ks.b3.1 ks.b3.2 kt.o3 ks.o3 (CellsIn.up kt.m3 (EnvX.bel hu)) (CellsIn.up ks.m3 (EnvX.bel hu))
 have HCS:Hid (Rt w 49 #[.slice t.A4 t.n4 t.c4, .slice s.A4 s.n4 s.c4] (.bool (j6E t.c s.c))):=fun u hu=>q4h t.c s.c t.A4 s.A4 t.n4 t.c4 s.n4 s.c4 u kt.l4 kt.b4.1 kt.b4.2 kt.o4 (CellsIn.up kt.m4 (EnvX.bel hu)) ks.l4 ks.b4.1 ks.b4.2 ks.o4 (CellsIn.up ks.m4 (EnvX.bel hu))
 obtain⟨b1,hb1⟩: ∃b1,decide (t.b.r=s.b.r)=b1:=⟨_,rfl⟩
 obtain⟨b2,hb2⟩: ∃b2,decide (t.p=s.p)=b2:=⟨_,rfl⟩
 obtain⟨b3,hb3⟩: ∃b3,j6E t.c s.c=b3:=⟨_,rfl⟩
 rw[hb1]at HBS HS
 rw[hb2]at HMS HS
 rw[hb3]at HCS HS
 have E1:Hid (EnvX w ((w.alloc (.cells (j0j t) 41)).alloc (.cells (j0j s) 41)) [(w.heap.size+1,oc (j0j s) 41),(w.heap.size,oc (j0j t) 41)]):=(EnvX.start w).two _ _
 clear kt mt ks ms m1 m2 l1 l2 hb1 hb2 hb3
 unfold j29
 go_enter func19,ntmps19
 go_upto_region 1 with (fail)
 generalize (w.alloc (.cells (j0j t) 41)).alloc (.cells (j0j s) 41)=W at *
 refine rgQ [0,1,2,3,4,5] [] E1 rfl fun hw=>?_
 refine qf rfl hw ?_
 refine ql rfl (mT mH) HKT.out hw ?_
 refine qf rfl hw ?_
 refine ql rfl mH HKS.out hw ?_
 refine qc rfl func42 (fun u hu=>HBS.out u (nl hu)) hw ?_
 refine qo rfl hw ?_
 refine enP fun u3 EX2=>?_
 go_upto_region 2 with (fail)
 refine rgQ [0,1,2,3,4,5] [] EX2 rfl fun hw=>?_
 refine qf rfl hw ?_
 refine ql rfl (mT mH) HKT.out hw ?_
 refine qf rfl hw ?_
 refine ql rfl mH HKS.out hw ?_
 refine qc rfl func48 (fun u hu=>HMS.out u (nl hu)) hw ?_
 refine qo rfl hw ?_
 refine enP fun u6 EX5=>?_
 go_upto_region 3 with (fail)
 refine rgQ [0,1,2,3,4,5] [] EX5 rfl fun hw=>?_
 refine qf rfl hw ?_
 refine ql rfl (mT mH) HKT.out hw ?_
 refine qf rfl hw ?_
 refine ql rfl mH HKS.out hw ?_
 refine qc rfl func49 (fun u hu=>HCS.out u (nl hu)) hw ?_
 refine qo rfl hw ?_
 refine enP fun u9 EX8=>?_
 cases b1 with
 |false=>
  have HF:Hid (decide (t.r=s.r)=false):=HS.out
  go_upto_region 4 with (fail)
  refine rgQ [0,1,2,3,4,5,6,7] [] EX8 rfl fun hw=>?_
  refine qw 8 hw ?_
  refine enP fun u12 EX11=>?_
  have HBE:=hD (EnvX.bel EX11.out)
  go_wp2
  go_ret
  exact⟨by rw[HF.out];first|done|rfl,HBE.out⟩
 | true=>
  cases b2 with
  |false=>
   have HF:Hid (decide (t.r=s.r)=false):=HS.out
   go_upto_region 4 with (fail)
   refine rgQ [0,1,2,3,4,5,6,7] [] EX8 rfl fun hw=>?_
   refine qw 8 hw ?_
   refine enP fun u12 EX11=>?_
   have HBE:=hD (EnvX.bel EX11.out)
   go_wp2
   go_ret
   exact⟨by rw[HF.out];first|done|rfl,HBE.out⟩
  |true=>
   have HF:Hid (decide (t.r=s.r)=b3):=HS.out
   go_upto_region 4 with (fail)
   refine rgQ [0,1,2,3,4,5,6,7] [] EX8 rfl fun hw=>?_
   refine qw 8 hw ?_
   refine enP fun u12 EX11=>?_
   have HBE:=hD (EnvX.bel EX11.out)
   go_wp2
   go_ret
   exact⟨by rw[HF.out];first|done|rfl,HBE.out⟩
theorem q25{bits:Nat}(hb:bits<4294967296):okHd (j3k bits):=
 ⟨⟨by show (-9223372036854775808:Int)≤0;omega,by show (0:Int)≤_;omega⟩,x1u,j3t (l:=[]) (fun x h=>by cases h),j3t (l:=[]) (fun x h=>by cases h),noTot_ok.1,by show 0<Big;unfold Big;decide,hb,by show 0<_;omega⟩
theorem q6N{bits:Nat}(hb:bits<4294967296){A1:Option Addr}{c1:Nat}{N1:j0e}{u:World}(hF:FreshR 61 37 (j1A [] (j0C (j3k bits))).length ((j1A [] (j0C (j3k bits))).map j11).flatten (.slice A1 (j1A [] (j0C (j3k bits))).length c1) N1)(h1:(j1A [] (j0C (j3k bits))).length≤c1)(h2:c1≤maxLen)(hN: ∀y∈N1,u.heap[y.1]?=some y.2):
  IsTip (j4t bits) ⟨⟨j3k bits,[],none,0,0,[],none,0,0⟩,j1A [] (j0C (j3k bits)),A1,(j1A [] (j0C (j3k bits))).length,c1,[],none,0,0⟩ u:=by
 have hap:okTs (j1A [] (j0C (j3k bits))):=q2T (fun _ h=>by cases h) (j5t _)
 refine⟨rfl,⟨⟨q25 hb,rfl,⟨Nat.le_refl _,Nat.zero_le _⟩,(fun x h=>by cases h),(fun h=>absurd h (Nat.lt_irrefl 0)),rfl,⟨Nat.le_refl _,Nat.zero_le _⟩,⟨fun h=>absurd h (Nat.lt_irrefl 0),fun t h=>by cases h⟩⟩,rfl,⟨h1,h2⟩,hap,j5m hF rfl hap hN,rfl,⟨Nat.le_refl _,Nat.zero_le _⟩,(fun x h=>by cases h),(fun h=>absurd h (Nat.lt_irrefl 0))⟩⟩
section
variable {t:TipR}{b:BlkR}{K:Hd}
theorem x2J(h:48≤b.h.height):j2a t b=(t,3):=by unfold j2a;rw[if_pos h]
theorem x2y(hK:j05 t b.t b.h.nonce=K)(h1: ¬48≤b.h.height)(h: ¬(b.h.height=K.height∧b.h.prev=K.prev∧b.h.bits=K.bits)):j2a t b=(t,5):=by subst hK;unfold j2a;rw[if_neg h1,if_pos h]
theorem x16(hK:j05 t b.t b.h.nonce=K)(h1: ¬48≤b.h.height)(h2:b.h.height=K.height∧b.h.prev=K.prev∧b.h.bits=K.bits)(h: ¬(b.l=j0H t∧b.h.links=K.links)):j2a t b=(t,6):=by subst hK;unfold j2a;rw[if_neg h1,if_neg (fun k=>k h2),if_pos h]
theorem x2z(hK:j05 t b.t b.h.nonce=K)(h1: ¬48≤b.h.height)(h2:b.h.height=K.height∧b.h.prev=K.prev∧b.h.bits=K.bits)(h3:b.l=j0H t∧b.h.links=K.links)(h: ¬(b.h.txs=K.txs∧b.h.past=K.past∧b.h.work=K.work)):j2a t b=(t,7):=by
 subst hK;unfold j2a;rw[if_neg h1,if_neg (fun k=>k h2),if_neg (fun k=>k h3),if_pos h]
theorem q1l(hK:j05 t b.t b.h.nonce=K)(h1: ¬48≤b.h.height)(h2:b.h.height=K.height∧b.h.prev=K.prev∧b.h.bits=K.bits)(h3:b.l=j0H t∧b.h.links=K.links)(h4:b.h.txs=K.txs∧b.h.past=K.past∧b.h.work=K.work):
  j2a t b=if j4U b.h=false then (t,4)else if (j0t t.c b.t).2≠0 then (t,(j0t t.c b.t).2)else (⟨b,j1A t.p (j0C b.h),(j0t t.c b.t).1⟩,0):=by
 subst hK;unfold j2a;rw[if_neg h1,if_neg (fun k=>k h2),if_neg (fun k=>k h3),if_neg (fun k=>k h4)]
end
theorem q6V{p:List CoinR}(hp:okP p)(l:List TxR){d:List CoinR}{e:Nat}(h:j0t p l=(d,e)):okP d:=by
 cases hm:j3h p with
 |false=>
  unfold j0t at h
  rw[if_pos hm]at h
  cases h
  exact hp
 |true=>
  have h1:=j94 hp.id hm l
  rw[h]at h1
  simp only at h1
  have h2:=mayP_iff.1 h1.1
  exact x1j h1.2.1 h2.2.1
theorem CoB.apart {q:List CoinR} {A:Option Addr} {N M:j0e} {w0 u:World} (h:CoB q A N) (hq:okP q) (hu:EnvX w0 u M) (hN: ∀y∈N,y∈M) {g:Nat} {cs:Array Value} {ty:TypeId} (hg:(g,oc cs ty)∈M) (hcs: ∀(k:Nat)(i:Int),32≤k→cs[k]?≠Option.some (.int .i64 i)): ∃N',CoB q A N'∧ ∀y∈N',y∈N∧y.1≠g:=by
 by_cases h0:(q.map coC).flatten=[]
 · exact⟨[], .inl ⟨h0,rfl⟩,fun y hy=>by cases hy⟩
 · rcases h with ⟨h1,_⟩|⟨ad,o,rfl,rfl,hc⟩
   · exact absurd h1 h0
   · refine⟨_, .inr ⟨ad,o,rfl,rfl,hc⟩,fun y hy=>⟨hy,?_⟩⟩
     cases mS.1 hy
     intro e
     cases q with
     |nil=>exact h0 rfl
     | cons c r=>
      have hx:c.tx.length=32:=(hq c (List.mem_cons_self ..)).1.1
      have e1:(((c::r).map coC).flatten)[32]?=Option.some (.int .i64 c.i):=by
       have hl:(j0d 32 c.tx).toList.length=32:=j0g hx
       show ((((j0d 32 c.tx).toList++[Value.int .i64 c.i])++j6Q (j9h c))++(r.map coC).flatten)[32]?=_
       rw[aA,aA,List.getElem?_append_right (by rw[hl];exact Nat.le_refl _),hl]
       rfl
      have e2:=hc u (hu.box _ _ (hN _ (mS.2 rfl))) 32 _ e1
      have e3:u.heap[g]?=Option.some (oc cs ty):=hu.box _ _ hg
      unfold World.cell? at e2
      rw[show (ad.add 32).block=g from (j0N _ _).trans e,e3]at e2
      have e4:(ad.add 32).off=ad.off+32:=rfl
      simp only at e2
      split at e2
      · cases e2
      · rw[e4]at e2
        exact hcs _ _ (by omega) e2
theorem q6f: ∀(k:Nat)(i:Int),32≤k→(j0j noTipM)[k]?≠some (.int .i64 i):=by
 have hk: ∀k:Nat,k<107→(match (j0j noTipM)[k+32]? with|some (.int .i64 _)=>false|_=>true)=true:=by decide+kernel
 intro k i h e
 rcases Nat.lt_or_ge k 139 with h1|h1
 · have:=hk (k- 32) (by omega)
   rw[show k- 32+32=k by omega,e]at this
   cases this
 · rw[Array.getElem?_eq_none (by rw[j0m (t:=noTipM) j1k];exact h1)]at e
   cases e
section
variable {a:Act}{dst:Option Tmp}{x y:Operand}{ty:TypeId}{pos:String}{after:Array Edge}{gd:Option (Nat × Bool)}
end
section
variable {t:TipR}{l:List TxR}{nonce:Nat}{tries:Int}{K:Hd}
theorem x2H(hK:j05 t l nonce=K)(h:48≤K.height):j2Q t l nonce tries=(j4f,3):=by subst hK;unfold j2Q;rw[if_pos h]
theorem x1Z(hK:j05 t l nonce=K)(h1: ¬48≤K.height)(h:(j0t t.c l).2≠0):j2Q t l nonce tries=(j4f,(j0t t.c l).2):=by subst hK;unfold j2Q;rw[if_neg h1,if_pos h]
theorem x2k(hK:j05 t l nonce=K)(h1: ¬48≤K.height)(h2: ¬(j0t t.c l).2≠0)(h:(j3x K tries).2=false):j2Q t l nonce tries=(j4f,4):=by subst hK;unfold j2Q;rw[if_neg h1,if_neg h2,if_pos h]
theorem x12(hK:j05 t l nonce=K)(h1: ¬48≤K.height)(h2: ¬(j0t t.c l).2≠0)(h:(j3x K tries).2=true):j2Q t l nonce tries=(⟨(j3x K tries).1,j0H t,l⟩,0):=by subst hK;unfold j2Q;rw[if_neg h1,if_neg h2,if_neg (by rw[h];decide)]
theorem q4S{h:Hd}(hh:okHd h)(tries:Int):okHd (j3x h tries).1:=by
 unfold j3x
 split
 · exact j8O hh _
 · exact hh
end
open Go.ChangeShapes Go.WideShapes Go.ChangeAt Go.RowKit Go.Deep
theorem q0p:Tryz.prog.cellsOf 37=137:=by kernel_rfl
theorem q8k:Tryz.prog.cellsOf 35=1:=by kernel_rfl
theorem q61:Tryz.prog.cellsOf 23=1:=by kernel_rfl
theorem x4R{cs a b c:List Value}{i j:Nat}(h0:(cs.drop 0).take i=a)(h1:(cs.drop i).take 1=b)(h2:(cs.drop (i+1)).take 1=c)(hl:cs.length=i+1+1):cs=a++(b++c):=by
 have h3:(cs.drop (i+1)).take 1=cs.drop (i+1):=tL (by rw[List.length_drop];omega)
 rw[h3,←List.drop_drop]at h2
 rw[List.drop_zero]at h0
 rw[←h0,←h1,←h2,List.take_append_drop,List.take_append_drop]
section
variable {H:Type}{enc:TypeId × Value→H}{W:World}{base:Nat}{v:Value}{d:DataW H}{p:List MemPlace}{fuel:Nat}{cs:List Value}{x:DataW H × List MemPlace}
end
def zeroBl:List Value:=[Value.int .i64 0]++(List.replicate 128 (Value.int .u8 0)++(List.replicate 4 (Value.int .u64 0)++[Value.int .u32 0,Value.int .u64 0]))++[Value.slice none 0 0,Value.slice none 0 0]
def x4z:Value:= .agg zeroBl.toArray
def x37{H:Type}:DataW H:= .agg [x3Z, .nil, .nil]
def j4d(x:TipR × Nat)(b:BlkR):TipR × Nat:=if x.2=0 then (if (j2a x.1 b).2=0 then j2a x.1 b else (j27,(j2a x.1 b).2))else x
def j37(b:BlkR):TipR × Nat:=if isC b.h.bits=true∧(j4t b.h.bits).b=b then (j4t b.h.bits,0)else (j27,12)
def j0q:List BlkR→TipR × Nat
  |[]=>(j27,9)
  |b::r=>r.foldl j4d (j37 b)
def x1f(bits:Nat):List BlkR × Bool:=if isC bits=true then ([(j4t bits).b],true)else ([],false)
def j6t(l:List BlkR)(t:List TxR)(nonce:Nat):List BlkR × Nat:=
  if (j0q l).2≠0 then (l,(j0q l).2)else
  if (j2Q (j0q l).1 t nonce 200).2≠0 then (l,(j2Q (j0q l).1 t nonce 200).2)else (l++[(j2Q (j0q l).1 t nonce 200).1],0)
def j4Q:List BlkR→List Int→Int
  |[],_=> -1
  |b::r,id=>if idH b.h=id then 0 else if j4Q r id<0 then-1 else j4Q r id+1
def j10(l:List BlkR):List Int:=l.map fun b=>j1g b.h
def j1h(l:List BlkR):List Tot:=l.map fun b=>j0C b.h
abbrev atB(l:List BlkR)(i:Nat):BlkR:=l.getD i j4f
def q3G(l:List BlkR)(k:Nat):TipR:=(j0q (l.take k)).1
theorem q13{bits:Nat}(h:isC bits=true):j37 (j4t bits).b=(j4t bits,0):=by
 show (if isC bits=true∧(j4t bits).b=(j4t bits).b then (j4t bits,0)else (j27,12))=_
 rw[if_pos ⟨h,rfl⟩]
theorem q0t(b:BlkR):j0q [b]=j37 b:=rfl
theorem q2P: ∀(q:List BlkR){x:TipR × Nat},x.2≠0→q.foldl j4d x=x
 |[],_,_=>rfl
 |b::q,x,h=>by
  show q.foldl j4d (j4d x b)=x
  rw[show j4d x b=x from if_neg h]
  exact q2P q h
theorem q0d{l:List BlkR}(h:l≠[])(q:List BlkR):j0q (l++q)=q.foldl j4d (j0q l):=by
 cases l with
 |nil=>exact absurd rfl h
 |cons b r=>exact List.foldl_append ..
theorem j57{l:List BlkR}(h:l≠[])(b:BlkR):j0q (l++[b])=j4d (j0q l) b:=q0d h [b]
theorem q68{l:List BlkR}{k:Nat}(h1:1≤k)(h2:k≤l.length):l.take k≠[]:=fun h=>by
 have e:=congrArg List.length h
 rw[List.length_take,List.length_nil]at e
 omega
theorem q43{l:List BlkR}{k:Nat}(h:k<l.length):l.take (k+1)=l.take k++[atB l k]:=by
 rw[List.take_add_one,gE h]
 unfold atB
 rw[gD,gE h]
 rfl
theorem j8D{l:List BlkR}{k:Nat}(h1:1≤k)(h2:k<l.length):j0q (l.take (k+1))=j4d (j0q (l.take k)) (atB l k):=by
 rw[q43 h2,j57 (q68 h1 (by omega))]
theorem q05{l:List BlkR}(h:1≤l.length):j0q (l.take 1)=j37 (atB l 0):=by
 cases l with
 |nil=>exact absurd h (by decide)
 |cons b r=>rfl
theorem q7B{l:List BlkR}{k:Nat}(h1:1≤k)(h2:k≤l.length):j0q l=(l.drop k).foldl j4d (j0q (l.take k)):=by
 rw[←q0d (q68 h1 h2),List.take_append_drop]
theorem j67{l:List BlkR}{k:Nat}(h1:1≤k)(h2:k≤l.length)(h:(j0q (l.take k)).2≠0):j0q l=j0q (l.take k):=by
 rw[q7B h1 h2,q2P _ h]
theorem j72{l:List BlkR}{k:Nat}(h:(j0q l).2=0)(h1:1≤k)(h2:k≤l.length):(j0q (l.take k)).2=0:=by
 refine Classical.byContradiction fun hn=>?_
 rw[j67 h1 h2 hn]at h
 exact hn h
theorem q7v{b:BlkR}(h:(j37 b).2≠0):j37 b=(j27,12):=by
 unfold j37 at h ⊢
 split
 · rename_i k
   rw[if_pos k]at h
   exact absurd rfl h
 · rfl
theorem q9c{x:TipR × Nat}{b:BlkR}(hx:x.2≠0→x.1=j27)(h:(j4d x b).2≠0):(j4d x b).1=j27:=by
 unfold j4d at h ⊢
 split
 · rename_i k
   rw[if_pos k]at h
   split
   · rename_i k2
     rw[if_pos k2]at h
     exact absurd k2 h
   · rfl
 · rename_i k
   exact hx k
theorem q30: ∀(q:List BlkR){x:TipR × Nat},(x.2≠0→x.1=j27)→(q.foldl j4d x).2≠0→(q.foldl j4d x).1=j27
 |[],_,hx,h=>hx h
 |b::q,x,hx,h=>q30 q (x:=j4d x b) (q9c hx) h
theorem j7a{l:List BlkR}(h:(j0q l).2≠0):(j0q l).1=j27:=by
 cases l with
 |nil=>rfl
 |cons b r=>exact q30 r (fun k=>by rw[q7v k]) h
theorem j50{l:List BlkR}(h:(j0q l).2=0):1≤l.length:=by
 cases l with
 |nil=>exact absurd h (by decide)
 |cons b r=>exact Nat.le_add_left ..
section
variable {l:List BlkR}
theorem q7C:q3G l l.length=(j0q l).1:=by unfold q3G;rw[List.take_length]
theorem j5X(h:(j0q l).2=0):isC (atB l 0).h.bits=true∧atB l 0=(j4t (atB l 0).h.bits).b∧q3G l 1=j4t (atB l 0).h.bits:=by
 have h1:=j50 h
 have h2:=j72 h (Nat.le_refl 1) h1
 have e:=q05 h1
 rw[e]at h2
 have k:isC (atB l 0).h.bits=true∧(j4t (atB l 0).h.bits).b=atB l 0:=by
  refine Classical.byContradiction fun hn=>?_
  unfold j37 at h2
  rw[if_neg hn]at h2
  exact absurd h2 (by decide)
 refine⟨k.1,k.2.symm,?_⟩
 unfold q3G
 rw[e]
 unfold j37
 rw[if_pos k]
theorem j7i(h:(j0q l).2=0){k:Nat}(h1:1≤k)(h2:k<l.length):j2a (q3G l k) (atB l k)=(q3G l (k+1),0):=by
 have a:=j72 h h1 (by omega)
 have b:=j72 h (k:=k+1) (by omega) (by omega)
 have e:=j8D h1 h2
 rw[e]at b
 unfold j4d at b e
 rw[if_pos a]at b e
 unfold q3G
 by_cases c:(j2a (j0q (l.take k)).1 (atB l k)).2=0
 · rw[if_pos c]at e
   rw[e,←c]
 · rw[if_neg c]at b
   exact absurd b c
theorem q5L(h:(j0q l).2=0){k:Nat}(h2:k<l.length):(q3G l (k+1)).b=atB l k:=by
 cases k with
 |zero=>rw[(j5X h).2.2];exact(j5X h).2.1.symm
 |succ k=>rw[(j7I (j7i h (by omega) h2)).2.2.2.2.2]
theorem q2R(h:(j0q l).2=0): ∀{k:Nat},k<l.length→(q3G l (k+1)).p=j6L ((j1h l).take (k+1))
 | 0,h2=>by
  have e:=j5X h
  rw[e.2.2]
  cases l with
  |nil=>exact absurd h2 (by decide)
  |cons b r=>
   show [j0C (j3k b.h.bits)]=[j0C b.h]
   have e2:b=(j4t b.h.bits).b:=e.2.1
   rw[e2]
   rfl
 | k+1,h2=>by
  have e:=(j7I (j7i h (k:=k+1) (by omega) h2)).2.2.2.2.2
  rw[e]
  show j1A (q3G l (k+1)).p (j0C (atB l (k+1)).h)=_
  rw[q2R h (k:=k) (by omega)]
  have hl:(j1h l)[k+1]?=some (j0C (atB l (k+1)).h):=by
   unfold j1h atB
   rw[List.getElem?_map,gD,gE h2]
   rfl
  rw[List.take_add_one (i:=k+1),hl]
  unfold j6L
  rw[List.foldl_append]
  rfl
theorem x2d(h:(j0q l).2=0){k:Nat}(h2:k+1<l.length):(atB l (k+1)).h=j05 (q3G l (k+1)) (atB l (k+1)).t (atB l (k+1)).h.nonce:=(j7I (j7i h (k:=k+1) (by omega) h2)).1
theorem q0C(h:(j0q l).2=0): ∀{k:Nat},k<l.length→(atB l k).h.height=(k:Int)∧k<48
 |0,_=>by
  have e:=(j5X h).2.1
  rw[e]
  exact⟨rfl,by decide⟩
 |k+1,h2=>by
  obtain⟨e,h3⟩:=q0C h (k:=k) (by omega)
  have g:=congrArg Hd.height (x2d h h2)
  have g2:(atB l (k+1)).h.height=IntKind.i64.wrap ((q3G l (k+1)).b.h.height+1):=g
  rw[q5L h (by omega),e,IntKind.wrap_i64]at g2
  have h4:=(j7I (j7i h (k:=k+1) (by omega) h2)).2.1
  refine⟨?_,?_⟩<;>omega
theorem x4n(h:(j0q l).2=0):l.length≤48:=by
 have h1:=j50 h
 have:=(q0C h (k:=l.length- 1) (by omega)).2
 omega
theorem j4V(l:List BlkR):okTs (j1h l)∧ ∀x∈j1h l,x.n=1:=by
 refine⟨fun x hx=>?_,fun x hx=>?_⟩<;>
 · unfold j1h at hx
   obtain⟨b,-,rfl⟩:=List.mem_map.1 hx
   first|exact j5t b.h|rfl
theorem q4E{p:List CoinR}{t:TxR}{q:List CoinR}{m:Int}(h:j0x p t=(q,m,0)):q.length≤48:=by
 unfold j0x at h
 split at h
 · split at h
   · cases h
   · split at h
     · cases h
     · split at h
       · cases h
       · split at h
         · cases h
         · rename_i c
           cases h
           omega
 · cases h
theorem q27: ∀(l:List TxR)(p:List CoinR)(n:Int)(q:List CoinR)(m:Int),p.length≤48→j3U p n l= .ok (q,m)→q.length≤48
 |[],p,n,q,m,hp,h=>by
  cases h
  exact hp
 |t::l,p,n,q,m,hp,h=>by
  rw[j3U]at h
  rcases hs:j0x p t with ⟨q2,m2,e⟩
  rw[hs]at h
  cases e with
  |zero=>exact q27 l q2 _ q m (q4E hs) h
  |succ e=>cases h
theorem q36 {p:List CoinR} {l:List TxR} (h:(j0t p l).2=0):(j0t p l).1.length≤48:=by
 unfold j0t at h ⊢
 cases hm:j3h p with
 |false=>
  rw[hm,if_pos rfl]at h
  exact absurd h (show (1:Nat)≠0 by decide)
 | true =>
  rw[hm]at h
  simp only[Bool.true_eq_false,if_false]at h ⊢
  by_cases h4:4<l.length
  · rw[if_pos h4]at h
    exact absurd h (show (3:Nat)≠0 by decide)
  · rw[if_neg h4]at h ⊢
    cases hr:j3U p 0 (if j2P l=true then l.tail else l)with
    |error e=>
     rw[hr]at h
     exact(mayP_iff.1 hm).1
    | ok x=>
     obtain⟨q,n⟩:=x
     have hq:=q27 _ p 0 q n (mayP_iff.1 hm).1 hr
     rw[hr]at h
     cases l with
     |nil=>exact hq
     | cons t r =>
      simp only at h ⊢
      split at h
      · rename_i c
        rw[if_pos c]
        exact hq
      · rename_i c
        rw[if_neg c]
        split at h
        · exact absurd h (show (1:Nat)≠0 by decide)
        · rename_i c2
          rw[if_neg c2]
          split at h
          · exact absurd h (show (10:Nat)≠0 by decide)
          · rename_i c3
            rw[if_neg c3]
            split at h
            · exact absurd h (show (8:Nat)≠0 by decide)
            · rename_i c4
              rw[if_neg c4]
              split at h
              · exact absurd h (show (11:Nat)≠0 by decide)
              · rename_i c5
                rw[if_neg c5]
                show (j1y q (j18 (idX t) 0 t.outs)).length≤48
                omega
theorem x0T(h:(j0q l).2=0){k:Nat}(h2:k<l.length):(q3G l (k+1)).c.length≤48∧(q3G l (k+1)).p.length≤48:=by
 refine⟨?_,?_⟩
 · cases k with
   |zero=>
    rw[(j5X h).2.2]
    exact Nat.zero_le _
   |succ k=>
    have e:=j7I (j7i h (k:=k+1) (by omega) h2)
    rw[e.2.2.2.2.2]
    exact q36 e.2.2.2.2.1
 · rw[q2R h h2]
   have hl:(j1h l).length=l.length:=List.length_map _
   have e:=(q9o (k+1) (j1h l) (j4V l).1 (by omega)).2
   have:=x4n h
   omega
theorem q8b: ∀(l:List BlkR)(id:List Int)(k:Nat),k<l.length→(∀j,j<k→idH (atB l j).h≠id)→idH (atB l k).h=id→j4Q l id=(k:Int)
 |[],_,_,h,_,_=>absurd h (Nat.not_lt_zero _)
 |b::r,id,0,_,_,e=>if_pos e
 |b::r,id,k+1,h,H,e=>by
  have e2:=q8b r id k (by rw[List.length_cons]at h;omega) (fun j hj=>H (j+1) (by omega)) e
  unfold j4Q
  rw[if_neg (show¬idH b.h=id from H 0 (Nat.succ_pos _)),e2,if_neg (by omega)]
  omega
theorem q0n: ∀(l:List BlkR)(id:List Int),(∀j,j<l.length→idH (atB l j).h≠id)→j4Q l id= -1
 |[],_,_=>rfl
 |b::r,id,H=>by
  have e2:=q0n r id (fun j hj=>H (j+1) (by rw[List.length_cons];omega))
  unfold j4Q
  rw[if_neg (show¬idH b.h=id from H 0 (Nat.succ_pos _)),e2]
  rfl
end
structure BlksIn(w:World)(A:Option Addr)(l:List BlkM):Prop where
  cells:CellsIn w w.heap.size A (l.map j04).flatten
  each: ∀t∈l,BlkOk w t
def rsB(l:List BlkM):List BlkR:=l.map BlkM.r
theorem j3a(l:List BlkM):(rsB l).length=l.length:=List.length_map _
theorem j5O{l:List BlkM}{i:Nat}(h:i<l.length):atB (rsB l) i=(l.getD i noBlkM).r:=by
 unfold atB rsB
 rw[gD,List.getElem?_map,gE h,gD,gE h]
 rfl
theorem j1Q(l q:List BlkM):rsB (l++q)=rsB l++rsB q:=List.map_append
theorem BlksIn.up{w w':World}{A:Option Addr}{l:List BlkM}(h:BlksIn w A l)(hb:Below w.heap.size w w'):BlksIn w' A l:=⟨h.cells.up hb,fun t ht=>(h.each t ht).up hb⟩
theorem BlksIn.get{w:World}{A:Option Addr}{l:List BlkM}(h:BlksIn w A l){i:Nat}(hi:i<l.length):BlkOk w (l.getD i noBlkM):=by
 rw[gD,gE hi]
 exact h.each _ (List.getElem_mem hi)
theorem q3Y{w:World}{A:Option Addr}{l:List BlkM}(h:BlksIn w A l):isRows 137 (l.map j04):=fun x hx=>by
 obtain⟨t,ht,rfl⟩:=List.mem_map.1 hx
 exact j0y (h.each t ht).h.len
theorem BlksIn.flat{w:World}{A:Option Addr}{l:List BlkM}(h:BlksIn w A l):(l.map j04).flatten.length=l.length*137:=by
 have e:=(q3Y h).flat_len
 rwa[lM]at e
theorem j73{ad:Addr}{u:World}{b:BlkM}(k:j0M b.h)(hc: ∀(j:Nat)(v:Value),(j04 b)[j]?=some v→u.cell? (ad.add j)=some v):
  (loadVar 37 ad).run Tryz.prog u= .ok (j1O b) u∧
  (loadVar 34 ad).run Tryz.prog u= .ok (hdV b.h) u∧
  (loadVar 35 (ad.add 135)).run Tryz.prog u= .ok (.slice b.A1 b.n1 b.c1) u∧
  (loadVar 23 (ad.add 136)).run Tryz.prog u= .ok (.slice b.A2 b.n2 b.c2) u:=
 ⟨j0F aggBlk (j04 b) (j0y k) hc,(j0B k fun j v hv=>hc j v ((j1M k).1 j v hv)).1,j0f j7A u (hc 135 _ (j1M k).2.1),j0f q7i u (hc 136 _ (j1M k).2.2)⟩
theorem BlksIn.loads{w:World}{A:Option Addr}{l:List BlkM}(h:BlksIn w A l){k:Nat}(hk:k<l.length): ∃ad,A=some ad∧ad.block<w.heap.size∧ ∀u,EnvX w u []→
  (loadVar 37 (ad.add (k*137))).run Tryz.prog u= .ok (j1O (l.getD k noBlkM)) u∧
  (loadVar 34 (ad.add (k*137))).run Tryz.prog u= .ok (hdV (l.getD k noBlkM).h) u∧
  (loadVar 35 ((ad.add (k*137)).add 135)).run Tryz.prog u= .ok (.slice (l.getD k noBlkM).A1 (l.getD k noBlkM).n1 (l.getD k noBlkM).c1) u∧
  (loadVar 23 ((ad.add (k*137)).add 136)).run Tryz.prog u= .ok (.slice (l.getD k noBlkM).A2 (l.getD k noBlkM).n2 (l.getD k noBlkM).c2) u:=by
 obtain⟨ad,e,hb,hc⟩:=j35 (d:=noBlkM) h.cells (q3Y h) (by decide) hk
 refine⟨ad,e,hb,fun u hu=>?_⟩
 exact j73 (h.get hk).h.len fun j v hv=>by
  rw[←hc j v hv]
  exact(EnvX.bel hu).cell (by rw[j0N,j0N];exact hb)
structure RowM where
  l:List BlkM
  A:Option Addr
  n:Nat
  c:Nat
def RowM.r(m:RowM):List BlkR:=rsB m.l
def j4e(m:RowM):Value:= .slice m.A m.n m.c
structure RowOk(w:World)(m:RowM):Prop where
  l:m.l.length=m.n
  b:m.n≤m.c∧m.c≤maxLen
  m:BlksIn w m.A m.l
theorem RowOk.up{w w':World}{m:RowM}(h:RowOk w m)(hb:Below w.heap.size w w'):RowOk w' m:=⟨h.l,h.b,h.m.up hb⟩
def IsRow(r:List BlkR)(m:RowM)(w:World):Prop:=m.r=r∧RowOk w m
theorem IsRow.up{r:List BlkR}{m:RowM}{w w':World}(hb:Below w.heap.size w w')(h:IsRow r m w):IsRow r m w':=⟨h.1,h.2.up hb⟩
theorem RowM.r_len(m:RowM):m.r.length=m.l.length:=j3a m.l
theorem RowOk.n63{w:World}{m:RowM}(h:RowOk w m):m.n<9223372036854775808:=by
 have h1:=h.b
 unfold maxLen at h1
 omega
def j4J(b:BlkR):Prop:=b.l.length≤1000000∧b.t.length≤1000000∧ ∀x∈b.t,q6x x
theorem j2D(b:BlkM):j2c b↔j4J b.r:=by
 unfold j2c j3W j4J
 show _↔b.l.length≤1000000∧(rsT b.t).length≤1000000∧ ∀x∈rsT b.t,q6x x
 unfold rsT
 rw[lM]
 exact⟨fun h=>⟨h.1,h.2.1,fun x hx=>by obtain⟨y,hy,rfl⟩:=List.mem_map.1 hx;exact h.2.2 y hy⟩,fun h=>⟨h.1,h.2.1,fun x hx=>h.2.2 _ (List.mem_map.2 ⟨x,hx,rfl⟩)⟩⟩
theorem q8E:j4J j4f:=⟨Nat.zero_le _,Nat.zero_le _,fun x h=>by cases h⟩
def midRowR(r:List BlkR):Prop:=r.length≤100000∧ ∀b∈r,j4J b
theorem midRowR.take{r:List BlkR}(h:midRowR r)(k:Nat):midRowR (r.take k):=⟨by rw[List.length_take];have:=h.1;omega,fun b hb=>h.2 b (List.mem_of_mem_take hb)⟩
theorem midRowR.at{r:List BlkR}(h:midRowR r){k:Nat}(hk:k<r.length):j4J (atB r k):=by
 unfold atB
 rw[gD,gE hk]
 exact h.2 _ (List.getElem_mem hk)
theorem q1e{r:TipR}{t:TipM}{w:World}(h:IsTip r t w)(h1:j4J r.b)(h2:r.p.length≤1000)(h3:r.c.length≤1000):j3f t:=by
 obtain⟨rfl,-⟩:=h
 have hb:=(j2D t.b).2 h1
 exact⟨hb.1,h2,h3,hb.2⟩
theorem j38{l:List BlkR}(hl:midRowR l){t:TipM}{w:World}(h:IsTip (j0q l).1 t w):j3f t:=by
 by_cases h0:(j0q l).2=0
 · have h1:=j50 h0
   have e:=q7C (l:=l)
   obtain⟨k,hk⟩: ∃k,l.length=k+1:=⟨l.length- 1,by omega⟩
   have hlt:k<l.length:=by omega
   rw[hk]at e
   have hc:=x0T h0 hlt
   have hb:=q5L h0 hlt
   rw[e]at hc hb
   exact q1e h (by rw[hb];exact hl.at hlt) (by omega) (by omega)
 · refine q1e h ?_ ?_ ?_
   · rw[j7a h0];exact q8E
   · rw[j7a h0];exact Nat.zero_le _
   · rw[j7a h0];exact Nat.zero_le _
def j78(x:Int):Value:= .int .i64 x
structure ChainC:Prop where
  check: ∀(m:RowM)(w:World),RowOk w m→midRowR m.r→Tables w→
    Calls Tryz.prog 13 #[j4e m] w fun e w'=>(∃t:TipM,e= .returned (.tuple #[j29 t, .int .i64 ((j0q m.r).2:Int)])∧IsTip (j0q m.r).1 t w')∧Below w.heap.size w w'
  new: ∀(bits:Nat)(w:World),bits<4294967296→Tables w→
    Calls Tryz.prog 17 #[.int .u32 (bits:Int)] w fun e w'=>(∃m:RowM,e= .returned (.tuple #[j4e m, .bool (x1f bits).2])∧IsRow (x1f bits).1 m w')∧Below w.heap.size w w'
  grow: ∀(m:RowM)(l:List TxM)(A:Option Addr)(n c:Nat)(nonce:Nat)(w:World),RowOk w m→midRowR m.r→l.length=n→n≤c→c≤maxLen→TxsIn w A l→j3W l→nonce<18446744073709551616→Tables w→
    Calls Tryz.prog 15 #[j4e m, .slice A n c, .int .u64 (nonce:Int)] w fun e w'=>(∃q:RowM,e= .returned (.tuple #[j4e q, .int .i64 ((j6t m.r (rsT l) nonce).2:Int)])∧IsRow (j6t m.r (rsT l) nonce).1 q w')∧Below w.heap.size w w'
  find: ∀(m:RowM)(id:List Int)(w:World),RowOk w m→m.l.length≤100000→j3C id→Tables w→
    Calls Tryz.prog 28 #[j4e m,idv id] w fun e w'=>e= .returned (.int .i64 (j4Q m.r id))∧Below w.heap.size w w'
  levels: ∀(m:RowM)(w:World),RowOk w m→m.l.length≤100000→Tables w→
    Calls Tryz.prog 22 #[j4e m] w fun e w'=>(∃v,e= .returned v∧w'.ownsRow w.heap.size 3 1 v m.n ((j10 m.r).map j78))∧Below w.heap.size w w'
  leaves: ∀(m:RowM)(w:World),RowOk w m→m.l.length≤100000→Tables w→
    Calls Tryz.prog 26 #[j4e m] w fun e w'=>(∃v,e= .returned v∧w'.ownsRow w.heap.size 61 37 v m.n ((j1h m.r).map j11).flatten)∧Below w.heap.size w w'
  same: ∀(m q:RowM)(w:World),RowOk w m→midRowR m.r→RowOk w q→midRowR q.r→Tables w→
    Calls Tryz.prog 24 #[j4e m,j4e q] w fun e w'=>e= .returned (.bool (decide (m.r=q.r)))∧Below w.heap.size w w'
theorem q2U{f:FuncId}{args:Array Value}{u w0:World}{M:j0e}{r:List BlkR}{y:Value}(h:Calls Tryz.prog f args u fun e w'=>(∃m:RowM,e= .returned (.tuple #[j4e m,y])∧IsRow r m w')∧Below u.heap.size u w')(hu:EnvX w0 u M):
  Calls Tryz.prog f args u fun e w'=> ∃x M',e= .returned x∧EnvX w0 w' M'∧ ∃m N,x= .tuple #[.slice m.A m.n m.c,y]∧M'=N++M∧j66 w0 N (IsRow r m)∧ ∃v,IsRow r m v:=
 q3N (V:=fun m=> .tuple #[j4e m,y]) (Q:=IsRow r) (fun t w w' hb h=>h.up hb) h hu
theorem q6t{f:FuncId}{args:Array Value}{u w0:World}{r:List BlkR}{y:Value}(h:Calls Tryz.prog f args u fun e w'=>(∃m:RowM,e= .returned (.tuple #[j4e m,y])∧IsRow r m w')∧Below u.heap.size u w')(hu:EnvX w0 u []):
  Calls Tryz.prog f args u fun e w'=> ∃x M',e= .returned x∧EnvX w0 w' M'∧ ∃m N,x= .tuple #[.slice m.A m.n m.c,y]∧M'=N∧j66 w0 N (IsRow r m)∧ ∃v,IsRow r m v:=
 (q2U h hu).mono fun e w'⟨x,M',he,hE,t,N,hx,hM,hk,hv⟩=>⟨x,M',he,hE,t,N,hx,by rw[hM,List.append_nil],hk,hv⟩
theorem j45{H:Type}(d:DataW H):1≤Rows.uptoBulk d:=by
 cases d with
 |lit l=>cases l<;>simp[Rows.uptoBulk]
 |nil=>simp[Rows.uptoBulk]
 |ptr d=>simp[Rows.uptoBulk]
 |slice elems spare=>simp[Rows.uptoBulk]
 |agg parts=>simp[Rows.uptoBulk]
 |iface t d=>simp[Rows.uptoBulk]
 |map entries=>simp[Rows.uptoBulk]
 |held h=>simp[Rows.uptoBulk]
theorem j5U{H:Type}{d:DataW H}: ∀{l:List (DataW H)},d∈l→Rows.uptoBulk d≤Rows.uptoBulkAll l
 |x::r,h=>by
  show _≤Rows.uptoBulk x+Rows.uptoBulkAll r
  rcases List.mem_cons.1 h with rfl|h
  · omega
  · have:=j5U h
    omega
theorem j64{H:Type}{K:Nat}: ∀(l:List (DataW H)),(∀d∈l,K≤Rows.uptoBulk d)→l.length*K≤Rows.uptoBulkAll l
 |[],_=>by rw[List.length_nil,Nat.zero_mul];exact Nat.zero_le _
 |x::r,h=>by
  have h1:=h x (List.mem_cons_self ..)
  have h2:=j64 r (fun d hd=>h d (mT hd))
  show (r.length+1)*K≤Rows.uptoBulk x+Rows.uptoBulkAll r
  rw[Nat.add_mul,Nat.one_mul]
  omega
theorem q3X{H:Type}(a b:DataW H):3≤Rows.uptoBulk (.agg [a,b]):=by
 have h1:=j45 a
 have h2:=j45 b
 show 3≤Rows.uptoBulk a+(Rows.uptoBulk b+0)+1
 omega
theorem j3q {α:Type} {ok:α→Prop} {Q:α→Nat→Prop} {K:Nat} {C:α→List Value} {st e:TypeId} {z:Nat} {H:Type} {enc:TypeId × Value→H} {W:World} {fuel0:Nat} {cs0:List Value} {x0:DataW H × List MemPlace}
   (hs:Tryz.prog.underlying st=some (.slice e)) (hz:Tryz.prog.cellsOf e=z) (z0:0<z) (hlen: ∀t,ok t→(C t).length=z)
   (hQ: ∀t a b,Q t a→a≤b→Q t b) (hC: ∀(fuel:Nat)(cs:List Value)(x:DataW H × List MemPlace),DataW.trod enc Tryz.prog W 0 (fun _=>true) true fuel e cs=some x→(∃t,ok t∧cs=C t∧Q t (Rows.uptoBulk x.1))∧K≤Rows.uptoBulk x.1)
   (hf:DataW.trod enc Tryz.prog W 0 (fun _=>true) true fuel0 st cs0=some x0):
   ∃(a:Option Addr)(n c:Nat)(l:List α),cs0=[.slice a n c]∧l.length=n∧n≤c∧c≤maxLen∧(∀t∈l,ok t∧Q t (Rows.uptoBulk x0.1))∧CellsIn W W.heap.size a (l.map C).flatten∧n*K≤Rows.uptoBulk x0.1:=by
 rcases open_slice hs hf with ⟨hcs,_⟩|⟨a,len,cap,m,n,D,Pl,hcs,_,hl,hm,hmm,hx0,hx⟩
 · exact⟨none,0,0,[],hcs,rfl,Nat.le_refl _,Nat.zero_le _,(fun x h=>by cases h),(fun h=>absurd h (Nat.lt_irrefl 0)),by rw[Nat.zero_mul];exact Nat.zero_le _⟩
 · have hmc:m=cap:=by simpa using hmm
   subst hmc
   have hb0:Rows.uptoBulkAll ((List.range len).map D)≤Rows.uptoBulk x0.1:=by
    rw[hx0]
    show _≤Rows.uptoBulkAll _+Rows.uptoBulkAll _+1
    omega
   have hbk: ∀k,k<len→Rows.uptoBulk (D k)≤Rows.uptoBulk x0.1:=fun k hk=>Nat.le_trans (j5U (List.mem_map.2 ⟨k,List.mem_range.2 hk,rfl⟩)) hb0
   have hK:len*K≤Rows.uptoBulk x0.1:=by
    refine Nat.le_trans ?_ hb0
    have h:=j64 (K:=K) ((List.range len).map D) (fun d hd=>by
      obtain⟨k,hk,rfl⟩:=List.mem_map.1 hd
      obtain⟨cs',g1,g2⟩:=hx k (by have:=List.mem_range.1 hk;omega)
      exact(hC _ _ _ g2).2)
    rwa[lM,List.length_range]at h
   have hl': ∀k,k≤len→ ∃l:List α,l.length=k∧(∀t∈l,ok t∧Q t (Rows.uptoBulk x0.1))∧ ∀i,i<k→ ∀j,j<z→W.cell? ((a.add (i*z)).add j)=((l.map C).getD i [])[j]?:=by
    intro k
    induction k with
    |zero=>intro _;exact⟨[],rfl,(fun x h=>by cases h),(fun i hi=>absurd hi (by omega))⟩
    | succ k ih=>
      intro hk
      obtain⟨l,h1,h2,h3⟩:=ih (by omega)
      obtain⟨cs',g1,g2⟩:=hx k (by omega)
      rw[hz]at g1
      obtain⟨⟨t,ht,rfl,hq⟩,-⟩:=hC _ _ _ g2
      obtain⟨_,_,g4⟩:=World.cells?_some g1
      refine⟨l++[t],by rw[lA,h1];rfl,(fun y hy=>?_),(fun i hi j hj=>?_)⟩
      · rcases List.mem_append.1 hy with e|e
        · exact h2 y e
        · cases mS.1 e;exact⟨ht,hQ _ _ _ hq (hbk k (by omega))⟩
      · rw[List.map_append,gD]
        rcases Nat.lt_or_ge i k with h'|h'
        · rw[List.getElem?_append_left (by rw[lM];omega),←gD]
          exact h3 i h' j hj
        · obtain rfl:i=k:=by omega
          rw[List.getElem?_append_right (by rw[lM];omega),lM,h1,Nat.sub_self]
          exact g4 j hj
   obtain⟨l,h1,h2,h3⟩:=hl' len (Nat.le_refl _)
   have hR:isRows z (l.map C):=fun x hx=>by
    obtain⟨t,ht,rfl⟩:=List.mem_map.1 hx
    exact hlen t (h2 t ht).1
   refine⟨some a,len,m,l,hcs,h1,by omega,by omega,h2,?_,hK⟩
   intro hp
   have hfl:=hR.flat_len
   rw[lM,h1]at hfl
   have hpl:0<len:=by
    rcases Nat.eq_zero_or_pos len with h0|h0
    · rw[hfl,h0,Nat.zero_mul]at hp
      exact absurd hp (by omega)
    · exact h0
   have hlt:a.block<W.heap.size:=by
    have h0:=h3 0 hpl 0 z0
    rcases Nat.lt_or_ge a.block W.heap.size with hl'|hl'
    · exact hl'
    · skip
      have hn:((l.map C).getD 0 [])[0]?=none:=by
        rw[←h0,j6B,Nat.zero_mul,Nat.add_zero]
        have hb0:(a.add 0).block=a.block:=j0N _ _
        simp[World.cell?,hb0,Array.getElem?_eq_none hl']
      have hg:((l.map C).getD 0 []).length=z:=by
        rw[gD,gE (by rw[lM];omega)]
        exact hR _ (List.getElem_mem _)
      rw[List.getElem?_eq_none_iff]at hn
      omega
   refine⟨a,rfl,hlt,fun j u hu=>?_⟩
   have hj:j<len*z:=by
    rcases Nat.lt_or_ge j (len*z)with h'|h'
    · exact h'
    · rw[gN (by rw[hfl];exact h')]at hu
      cases hu
   have hi:j/z<len:=Nat.div_lt_of_lt_mul (by rw[Nat.mul_comm];exact hj)
   have hm2:j % z<z:=Nat.mod_lt _ z0
   have hj2:(j/z)*z+j % z=j:=by rw[Nat.mul_comm];exact Nat.div_add_mod j z
   have hg:=hR.flat_get (j/z) (j % z) (by rw[lM];omega) hm2
   rw[hj2]at hg
   have hc:=h3 _ hi _ hm2
   rw[j6B,hj2]at hc
   rw[hc,←hg,hu]
section
variable {H:Type}{enc:TypeId × Value→H}{W:World}{fuel:Nat}{cs:List Value}{x:DataW H × List MemPlace}
theorem x3h(h:DataW.trod enc Tryz.prog W 0 (fun _=>true) true fuel 26 cs=some x):(∃t:List Int,(t.length=32∧ ∀b∈t,0≤b∧b≤255)∧cs=t.map u8v∧True)∧2≤Rows.uptoBulk x.1:=by
 refine⟨?_,?_⟩
 · obtain⟨hs,k1,k2,e0⟩:=j4W h
   exact⟨hs,⟨k1,k2⟩,e0,trivial⟩
 · obtain⟨ys,m,_,hx,hlen,hl,hall⟩:=DataW.trod_array underlying26 h
   rw[hx]
   have h1:=j64 (K:=1) (ys.map (·.1)) (fun d _=>j45 d)
   show 2≤Rows.uptoBulkAll (ys.map (·.1))+1
   rw[lM,hl]at h1
   omega
theorem x2A(h:DataW.trod enc Tryz.prog W 0 (fun _=>true) true fuel 133 cs=some x):(∃t:InR,okIn t∧cs=inC t∧True)∧2≤Rows.uptoBulk x.1:=by
 refine⟨?_,?_⟩
 · obtain⟨t,h1,h2⟩:=x0P h
   exact⟨t,h1,h2,trivial⟩
 · obtain⟨y0,y1,n,hx,hl,h0,h1⟩:=trod_struct2 underlying133 h
   rw[hx]
   have:=q3X y0.1 y1.1
   show 2≤Rows.uptoBulk (DataW.agg [y0.1,y1.1])
   omega
theorem q8O(h:DataW.trod enc Tryz.prog W 0 (fun _=>true) true fuel 135 cs=some x):(∃t:OutR,q0l t∧cs=j6Q t∧True)∧2≤Rows.uptoBulk x.1:=by
 refine⟨?_,?_⟩
 · obtain⟨t,h1,h2⟩:=q6O h
   exact⟨t,h1,h2,trivial⟩
 · obtain⟨y0,y1,n,hx,hl,h0,h1⟩:=trod_struct2 underlying135 h
   rw[hx]
   have:=q3X y0.1 y1.1
   show 2≤Rows.uptoBulk (DataW.agg [y0.1,y1.1])
   omega
def QTx(t:TxM)(B:Nat):Prop:=t.n1*2≤B∧t.n2*2≤B
def QBlk(b:BlkM)(B:Nat):Prop:=b.n1*2≤B∧b.n2*2≤B∧ ∀t∈b.t,QTx t B
theorem QTx.le{t:TxM}{a b:Nat}(h:QTx t a)(hab:a≤b):QTx t b:=⟨Nat.le_trans h.1 hab,Nat.le_trans h.2 hab⟩
theorem QBlk.le{t:BlkM}{a b:Nat}(h:QBlk t a)(hab:a≤b):QBlk t b:=⟨Nat.le_trans h.1 hab,Nat.le_trans h.2.1 hab,fun y hy=>(h.2.2 y hy).le hab⟩
theorem x29(h:DataW.trod enc Tryz.prog W 0 (fun _=>true) true fuel 77 cs=some x):(∃t:TxM,TxOk W t∧cs=txC t∧QTx t (Rows.uptoBulk x.1))∧2≤Rows.uptoBulk x.1:=by
 obtain⟨y0,y1,n,hx,hl,h0,h1⟩:=trod_struct2 underlying77 h
 rw[q28]at hl
 obtain⟨a1,n1,c1,l1,p1,q1,r1,s1,o1,m1,b1⟩:=j3q (ok:=okIn) (Q:=fun _ _=>True) (C:=inC) underlying74 q2Z (by decide) (fun t ht=>j2u ht.len) (fun _ _ _ _ _=>trivial) (fun _ _ _ h=>x2A h) h0
 obtain⟨a2,n2,c2,l2,p2,q2,r2,s2,o2,m2,b2⟩:=j3q (ok:=q0l) (Q:=fun _ _=>True) (C:=j6Q) underlying75 q0w (by decide) (fun t ht=>rfl) (fun _ _ _ _ _=>trivial) (fun _ _ _ h=>q8O h) h1
 have hxb:Rows.uptoBulk x.1=Rows.uptoBulk y0.1+(Rows.uptoBulk y1.1+0)+1:=by rw[hx];rfl
 have hp:=j45 y0.1
 refine⟨⟨⟨⟨l1,l2⟩,a1,n1,c1,a2,n2,c2⟩,⟨q1,⟨r1,s1⟩,fun t ht=>(o1 t ht).1,m1,q2,⟨r2,s2⟩,fun t ht=>(o2 t ht).1,m2⟩,?_,by show n1*2≤_;omega,by show n2*2≤_;omega⟩,by omega⟩
 have p1':cs.take 1=[.slice a1 n1 c1]:=by
  have h:=p1
  rw[show Tryz.prog.cellsOf 74=1 from q7w]at h
  exact h
 have p2':(cs.drop 1).take 1=[.slice a2 n2 c2]:=by
  have h:=p2
  rw[show Tryz.prog.cellsOf 75=1 from q5a]at h
  exact h
 show cs=[.slice a1 n1 c1]++[.slice a2 n2 c2]
 rw[←p1',←p2',List.take_of_length_le (l:=cs.drop 1) (by rw[List.length_drop];omega),List.take_append_drop]
theorem x1S(h:DataW.trod enc Tryz.prog W 0 (fun _=>true) true fuel 34 cs=some x):9≤Rows.uptoBulk x.1:=by
 obtain⟨xs,k,hk,hxy,_,hxl,hf⟩:=DataW.trod_struct underlying34 h
 rw[hxy]
 have h1:=j64 (K:=1) (xs.map (·.1)) (fun d _=>j45 d)
 show 9≤Rows.uptoBulkAll (xs.map (·.1))+1
 rw[lM,hxl]at h1
 have h2:(8:Nat)*1≤Rows.uptoBulkAll (xs.map (·.1)):=h1
 omega
theorem q23(h:DataW.trod enc Tryz.prog W 0 (fun _=>true) true fuel 37 cs=some x):(∃t:BlkM,BlkOk W t∧cs=j04 t∧QBlk t (Rows.uptoBulk x.1))∧11≤Rows.uptoBulk x.1:=by
 obtain⟨y0,y1,y2,n,hx,hl,h0,h1,h2⟩:=trod_struct3 underlying37 h
 rw[q0p]at hl
 obtain⟨hd,hok,e0⟩:=q90 h0
 have hh:=x1S h0
 obtain⟨a1,n1,c1,l1,p1,q1,r1,s1,o1,m1,b1⟩:=j3q (ok:=fun t:List Int=>t.length=32∧ ∀b∈t,0≤b∧b≤255) (Q:=fun _ _=>True) (C:=fun t:List Int=>t.map u8v) underlying35 j5K (by decide) (fun t ht=>by rw[lM];exact ht.1) (fun _ _ _ _ _=>trivial) (fun _ _ _ h=>x3h h) h1
 obtain⟨a2,n2,c2,l2,p2,q2,r2,s2,o2,m2,b2⟩:=j3q (ok:=TxOk W) (Q:=QTx) (C:=txC) underlying23 q28 (by decide) (fun t ht=>rfl) (fun _ _ _ h k=>h.le k) (fun _ _ _ h=>x29 h) h2
 have hxb:Rows.uptoBulk x.1=Rows.uptoBulk y0.1+(Rows.uptoBulk y1.1+(Rows.uptoBulk y2.1+0))+1:=by rw[hx];rfl
 have hp1:=j45 y1.1
 refine⟨⟨⟨hd,l1,a1,n1,c1,l2,a2,n2,c2⟩,⟨hok,q1,⟨r1,s1⟩,fun t ht=>(o1 t ht).1,?_,q2,⟨r2,s2⟩,⟨m2,fun t ht=>(o2 t ht).1⟩⟩,?_,by show n1*2≤_;omega,by show n2*2≤_;omega,fun t ht=>(o2 t ht).2.le (by omega)⟩,by omega⟩
 · intro hp
   have e:(l1.map fun t:List Int=>t.map u8v).flatten=l1.flatten.map u8v:=by rw[List.map_flatten]
   rw[e]at m1
   exact m1 (by rw[lM];exact hp)
 have e0':(cs.drop 0).take 135=hdC hd:=by
  have h:=e0
  rw[show Tryz.prog.cellsOf 34=135 from q2N]at h
  exact h
 have p1':(cs.drop 135).take 1=[.slice a1 n1 c1]:=by
  have h:=p1
  rw[show Tryz.prog.cellsOf 35=1 from q8k]at h
  exact h
 have p2':(cs.drop (135+1)).take 1=[.slice a2 n2 c2]:=by
  have h:=p2
  rw[show Tryz.prog.cellsOf 23=1 from q61]at h
  exact h
 exact x4R (j:=0) e0' p1' p2' hl
end
section
variable {H:Type}{enc:TypeId × Value→H}{W:World}{base:Nat}{v:Value}{d:DataW H}{p:List MemPlace}
theorem QBlk.mid{b:BlkM}{w:World}(h:BlkOk w b){B:Nat}(q:QBlk b B)(hB:B≤1048576):j2c b:=by
 refine⟨by have:=h.l1;have:=q.1;omega,by have:=h.l2;have:=q.2.1;omega,fun t ht=>?_⟩
 have h2:=q.2.2 t ht
 have h3:=h.m2.each t ht
 exact⟨by have:=h3.l1;have:=h2.1;omega,by have:=h3.l2;have:=h2.2;omega⟩
theorem q4p(hok:Value.okWide Tryz.prog W .any base 22 v)(h:DataW.Trod enc Tryz.prog W 0 (fun _=>true) true 22 v d p)(hB:Rows.uptoBulk d≤1048576): ∃m:RowM,v=j4e m∧RowOk W m∧midRowR m.r:=by
 obtain⟨a0,len,cap,rfl⟩:=okWide_slice underlying22 hok
 obtain⟨fuel,hf⟩:=h
 obtain⟨a,n,c,l,h1,h2,h3,h4,h5,h6,h7⟩:=j3q (ok:=BlkOk W) (Q:=QBlk) (C:=j04) underlying22 q0p (by decide) (fun t ht=>j0y ht.h.len) (fun _ _ _ h k=>h.le k) (fun _ _ _ h=>q23 h) hf
 have h1':Value.slice a0 len cap=Value.slice a n c:=by simpa [Value.cells] using h1
 refine⟨⟨l,a,n,c⟩,h1',⟨h2,⟨h3,h4⟩,⟨h6,fun t ht=>(h5 t ht).1⟩⟩,?_,fun b hb=>?_⟩
 · show (rsB l).length≤100000
   rw[j3a]
   have hb:n*11≤Rows.uptoBulk d:=h7
   omega
 · obtain⟨t,ht,rfl⟩:=List.mem_map.1 hb
   exact(j2D t).1 ((h5 t ht).2.mid (h5 t ht).1 hB)
theorem q8g(hok:Value.okWide Tryz.prog W .any base 37 v)(h:DataW.Trod enc Tryz.prog W 0 (fun _=>true) true 37 v d p)(hB:Rows.uptoBulk d≤1048576): ∃t:BlkM,v=j1O t∧BlkOk W t∧j2c t:=by
 obtain⟨cs,rfl,hsz,_⟩: ∃cs,v= .agg cs∧cs.size=Tryz.prog.cellsOf 37∧Row.okWide Tryz.prog W .any base 37 cs:=by
  simpa [Value.okWide,underlying37] using hok
 obtain⟨fuel,hf⟩:=h
 obtain⟨⟨t,ht,hc,hq⟩,-⟩:=q23 hf
 refine⟨t,?_,ht,hq.mid ht hB⟩
 have:cs.toList=j04 t:=hc
 unfold j1O j0L
 rw[←this]
end
theorem x0S(a:Addr):a.add 0=a:=by unfold Addr.add;rfl
theorem BlksIn.cellsAt{w:World}{A:Option Addr}{l:List BlkM}(h:BlksIn w A l){k:Nat}(hk:k<l.length): ∃ad,A=some ad∧ ∀u,EnvX w u []→ ∀(j:Nat)(v:Value),(j04 (l.getD k noBlkM))[j]?=some v→u.cell? ((ad.add (k*137)).add j)=some v:=by
 obtain⟨ad,e,hb,hc⟩:=j35 (d:=noBlkM) h.cells (q3Y h) (by decide) hk
 refine⟨ad,e,fun u hu j v hv=>?_⟩
 rw[←hc j v hv]
 exact(EnvX.bel hu).cell (by rw[j0N,j0N];exact hb)
structure LoadsB(u:World)(a:Addr)(b:BlkM):Prop where
  blk:(loadVar 37 a).run Tryz.prog u= .ok (j1O b) u
  hd:(loadVar 34 (a.add 0)).run Tryz.prog u= .ok (hdV b.h) u
  prev:(loadVar 26 ((a.add 0).add 1)).run Tryz.prog u= .ok (idv b.h.prev) u
  bits:(loadVar 27 ((a.add 0).add 133)).run Tryz.prog u= .ok (.int .u32 (b.h.bits:Int)) u
  ids:(loadVar 35 (a.add 135)).run Tryz.prog u= .ok (.slice b.A1 b.n1 b.c1) u
  txs:(loadVar 23 (a.add 136)).run Tryz.prog u= .ok (.slice b.A2 b.n2 b.c2) u
theorem q8q{u:World}{a:Addr}{b:BlkM}(k:j0M b.h)(hc: ∀(j:Nat)(v:Value),(j04 b)[j]?=some v→u.cell? (a.add j)=some v):LoadsB u a b:=by
 have l:=j73 k hc
 have g:=j0B k (fun j v hv=>hc j v ((j1M k).1 j v hv))
 exact⟨l.1,by rw[x0S];exact l.2.1,by rw[x0S];exact g.2.2.1,by rw[x0S];exact g.2.2.2.2.2.2.2.1,l.2.2.1,l.2.2.2⟩
theorem RowOk.loads{w:World}{m:RowM}(h:RowOk w m){k:Nat}(hk:k<m.l.length): ∃ad,m.A=some ad∧ ∀u,EnvX w u []→LoadsB u (ad.add (k*137)) (m.l.getD k noBlkM):=by
 obtain⟨ad,e,hc⟩:=h.m.cellsAt hk
 exact⟨ad,e,fun u hu=>q8q (h.m.get hk).h.len (hc u hu)⟩
theorem q8v{w0:World}{N:j0e}{r:List BlkR}{m:RowM}(hk:j66 w0 N (IsRow r m))(hv: ∃v,IsRow r m v){k:Nat}(hl:k<m.l.length): ∃ad,m.A=some ad∧ ∀u M,EnvX w0 u M→(∀y∈N,y∈M)→LoadsB u (ad.add (k*137)) (m.l.getD k noBlkM):=by
 obtain⟨v,hv⟩:=hv
 obtain⟨ad,e,-⟩:=hv.2.loads hl
 refine⟨ad,e,fun u M hu hM=>?_⟩
 obtain⟨ad2,e2,h⟩:=(hk u M hu hM).2.loads hl
 have e3:ad2=ad:=Option.some.inj (e2.symm.trans e)
 rw[←e3]
 exact h u (EnvX.start u)
theorem RowM.at_r{m:RowM}{k:Nat}(hk:k<m.l.length):(m.l.getD k noBlkM).r=atB m.r k:=(j5O hk).symm
theorem RowM.at_h{m:RowM}{k:Nat}(hk:k<m.l.length):(m.l.getD k noBlkM).h=(atB m.r k).h:=congrArg BlkR.h (RowM.at_r hk)
def j6I:List BlkR:=[tipE.b]
def j4m:List BlkR:=[tipE.b,blkE]
theorem x2x:x1f 545259519=(j6I,true):=by unfold x1f;rw[if_pos j89];rfl
theorem q0R:j0q j6I=(tipE,0):=(q0t (j4t 545259519).b).trans (q13 j89)
theorem q9t:j6t j6I [] 0=(j4m,0):=by
 unfold j6t
 rw[q0R,if_neg (fun k=>k rfl),j5z,if_neg (fun k=>k rfl)]
 rfl
theorem q5t:j0q j4m=(q9Q,0):=by
 rw[show j4m=j6I++[blkE]from rfl,j57 (fun h=>by cases h),q0R]
 unfold j4d
 rw[if_pos rfl,x1a,if_pos rfl]
theorem q5K:0≤j1g blkE.h:=by
 have h:=(j9w j5z).2.2.2.2.1
 unfold j4U at h
 exact of_decide_eq_true h
theorem q8e:(!eqL (idH blkE.h) z32&& !eqL (idH tipE.b.h) (idH blkE.h))=true:=by decide+kernel
theorem q84:j4Q j4m (idH blkE.h)=1:=by
 have h:=q8e
 rw[Bool.and_eq_true]at h
 have hn:idH tipE.b.h≠idH blkE.h:=fun e=>by
  have h2:=h.2
  rw[e]at h2
  simp[eqL]at h2
 show (if idH tipE.b.h=idH blkE.h then (0:Int)else _)=1
 rw[if_neg hn,show j4Q [blkE] (idH blkE.h)=0 from if_pos rfl]
 rfl
def plC(h:Hd):List Value:=[.int .i64 h.height]++((j0d 32 h.prev).toList++[.int .u32 h.bits])
def plA(h:Hd):Array Value:=(plC h).toArray
def plV(h:Hd):Value:= .agg (plA h)
def j9K(a b:Hd):Bool:=decide (a.height=b.height∧a.prev=b.prev∧a.bits=b.bits)
theorem q50{h:Hd}(k:j0M h):(plC h).length=34:=by
 unfold plC
 simp only[lA,j0g k.1,List.length_cons,List.length_nil]
theorem j6T{h:Hd}(k:j0M h):(plA h).size=34:=by unfold plA;rw[List.size_toArray,q50 k]
theorem x1D(h:Hd): ∀u∈plC h,u.oneCell'=true:=by
 intro u hu
 unfold plC at hu
 rw[List.mem_append,List.mem_append]at hu
 rcases hu with h|h|h
 · cases mS.1 h;rfl
 · exact(Array.all_eq_true_iff_forall_mem.1 (j0Q _ _)) u (Array.mem_toList_iff.1 h)
 · cases mS.1 h;rfl
theorem x3p(h:Hd):(plA h).all (·.oneCell')=true:=by
 rw[Array.all_eq_true]
 intro i hi
 exact x1D h _ (show (plA h)[i]∈(plA h).toList from Array.mem_toList_iff.2 (Array.getElem_mem hi))
theorem aggPl:AggT 195 34:=⟨fun w=>by simp[isAgg,run_underlying underlying195],by kernel_rfl⟩
theorem x1y(cs:Array Value)(h:cs.size=34):(Tryz.prog.info? 195).map (·.size)=some cs.size:=by rw[h];exact aggPl.size
theorem q8Z{h:Hd}(k:j0M h):((plA h).toList.drop 1).take 32=(j0d 32 h.prev).toList:=by
 unfold plA plC
 exact j25 rfl (j0g k.1)
theorem q9e{h:Hd}(k:j0M h):(plA h)[33]?=some (.int .u32 h.bits):=by
 unfold plA plC
 rw[←aA]
 exact j8Z (by simp only[lA,j0g k.1,List.length_cons,List.length_nil])
theorem x0v:(Tryz.prog.fieldsOf 195).toList.map (fun f=>(f.name== "_",f.type,f.offset))=[(false,3,0),(false,26,1),(false,27,33)]:=by kernel_rfl
theorem j90(a b:Hd)(ha:okHd a)(hb:okHd b)(w:World):(Op.equal 195 (plV a) (plV b)).run Tryz.prog w= .ok (j9K a b) w:=by
 unfold Op.equal plV
 have h:=run_equalIn_struct (P:=Tryz.prog) w 9999 195 (plA a) (plA b) (by kernel_rfl) (by kernel_rfl)
 refine Eq.trans h ?_
 have hf:=x0v
 generalize (Tryz.prog.fieldsOf 195).toList=fs at hf ⊢
 have hl:fs.length=3:=by simpa using congrArg List.length hf
 obtain⟨f0,f1,f2,rfl⟩: ∃f0 f1 f2,fs=[f0,f1,f2]:=by
  match fs,hl with
  |[a,b,c],_=>exact⟨a,b,c,rfl⟩
 simp only[List.map_cons,List.map_nil,List.cons.injEq,Prod.mk.injEq,beq_eq_false_iff_ne,and_true]at hf
 obtain⟨⟨n0,t0,o0⟩,⟨n1,t1,o1⟩,n2,t2,o2⟩:=hf
 have la:=ha.len
 have lb:=hb.len
 have p0: ∀t:Hd,(part 3 (plA t) 0).run Tryz.prog w= .ok (.int .i64 t.height) w:=fun t=>run_part_plain (P:=Tryz.prog) w (by kernel_rfl) rfl
 have p1: ∀t:Hd,j0M t→(part 26 (plA t) 1).run Tryz.prog w= .ok (.agg (j0d 32 t.prev)) w:=fun t kt=>j0U aggIdT (by have:=j1L (q8Z kt);rwa[Array.toArray_toList]at this) w
 have p2: ∀t:Hd,j0M t→(part 27 (plA t) 33).run Tryz.prog w= .ok (.int .u32 t.bits) w:=fun t kt=>run_part_plain (P:=Tryz.prog) w (by kernel_rfl) (q9e kt)
 have e0:=run_equalIn_int (P:=Tryz.prog) w 9998 3 .i64 .i64 a.height b.height underlying3
 have e1:=j1e 9997 a.prev b.prev la.1 lb.1 w
 have e2:=run_equalIn_int (P:=Tryz.prog) w 9998 27 .u32 .u32 a.bits b.bits underlying27
 have hd:j9K a b=((a.height==b.height) && (eqL a.prev b.prev&& ((a.bits:Int)==(b.bits:Int)))):=by
  unfold j9K eqL
  rw[Bool.eq_iff_iff]
  simp only[decide_eq_true_eq,Bool.and_eq_true,beq_iff_eq,Int.natCast_inj]
 rw[hd]
 rw[j0r (a:= .int .i64 a.height) (b:= .int .i64 b.height) n0 (by rw[t0,o0];exact p0 a) (by rw[t0,o0];exact p0 b) (by rw[t0];exact e0)]
 cases hc0:(a.height==b.height)with
 |false=>rfl
 | true=>
  rw[if_pos rfl,j0r (a:= .agg (j0d 32 a.prev)) (b:= .agg (j0d 32 b.prev)) n1 (by rw[t1,o1];exact p1 a la) (by rw[t1,o1];exact p1 b lb) (by rw[t1];exact e1)]
  cases hc1:eqL a.prev b.prev with
  |false=>rfl
  |true=>
   rw[if_pos rfl,j0r (a:= .int .u32 a.bits) (b:= .int .u32 b.bits) n2 (by rw[t2,o2];exact p2 a la) (by rw[t2,o2];exact p2 b lb) (by rw[t2];exact e2)]
   cases hc2:((a.bits:Int)==(b.bits:Int))with
   |false=>rfl
   |true=>rfl
theorem x21:Tryz.prog.eqGuardType Tryz.prog.depth 195=false:=by kernel_rfl
def roC(h:Hd):List Value:=(j0d 32 h.txs).toList++((j0d 32 h.past).toList++(wcs h.work).toList)
def roA(h:Hd):Array Value:=(roC h).toArray
def roV(h:Hd):Value:= .agg (roA h)
def j9N(a b:Hd):Bool:=decide (a.txs=b.txs∧a.past=b.past∧a.work=b.work)
theorem q7c{h:Hd}(k:j0M h):(roC h).length=68:=by
 unfold roC
 simp only[lA,j0g k.2.2.1,j0g k.2.2.2,j1j]
theorem j6S{h:Hd}(k:j0M h):(roA h).size=68:=by unfold roA;rw[List.size_toArray,q7c k]
theorem x28(h:Hd): ∀u∈roC h,u.oneCell'=true:=by
 intro u hu
 unfold roC at hu
 rw[List.mem_append,List.mem_append]at hu
 rcases hu with h|h|h
 · exact(Array.all_eq_true_iff_forall_mem.1 (j0Q _ _)) u (Array.mem_toList_iff.1 h)
 · exact(Array.all_eq_true_iff_forall_mem.1 (j0Q _ _)) u (Array.mem_toList_iff.1 h)
 · exact(Array.all_eq_true_iff_forall_mem.1 (j1v _)) u (Array.mem_toList_iff.1 h)
theorem x1U(h:Hd):(roA h).all (·.oneCell')=true:=by
 rw[Array.all_eq_true]
 intro i hi
 exact x28 h _ (show (roA h)[i]∈(roA h).toList from Array.mem_toList_iff.2 (Array.getElem_mem hi))
theorem aggRo:AggT 198 68:=⟨fun w=>by simp[isAgg,run_underlying underlying198],by kernel_rfl⟩
theorem x1d(cs:Array Value)(h:cs.size=68):(Tryz.prog.info? 198).map (·.size)=some cs.size:=by rw[h];exact aggRo.size
theorem x2W{h:Hd}(k:j0M h):((roA h).toList.drop 0).take 32=(j0d 32 h.txs).toList:=by
 unfold roA roC
 rw[List.drop_zero]
 exact List.take_left' (j0g k.2.2.1)
theorem x08{h:Hd}(k:j0M h):((roA h).toList.drop 32).take 32=(j0d 32 h.past).toList:=by
 unfold roA roC
 exact j25 (j0g k.2.2.1) (j0g k.2.2.2)
theorem x0E{h:Hd}(k:j0M h):((roA h).toList.drop 64).take 4=(wcs h.work).toList:=by
 unfold roA roC
 rw[←aA,←List.append_nil (wcs h.work).toList]
 exact j25 (by simp only[lA,j0g k.2.2.1,j0g k.2.2.2]) (j1j _)
theorem q88:(Tryz.prog.fieldsOf 198).toList.map (fun f=>(f.name== "_",f.type,f.offset))=[(false,26,0),(false,26,32),(false,32,64)]:=by kernel_rfl
theorem q1g(a b:Hd)(ha:okHd a)(hb:okHd b)(w:World):(Op.equal 198 (roV a) (roV b)).run Tryz.prog w= .ok (j9N a b) w:=by
 unfold Op.equal roV
 have h:=run_equalIn_struct (P:=Tryz.prog) w 9999 198 (roA a) (roA b) (by kernel_rfl) (by kernel_rfl)
 refine Eq.trans h ?_
 have hf:=q88
 generalize (Tryz.prog.fieldsOf 198).toList=fs at hf ⊢
 have hl:fs.length=3:=by simpa using congrArg List.length hf
 obtain⟨f0,f1,f2,rfl⟩: ∃f0 f1 f2,fs=[f0,f1,f2]:=by
  match fs,hl with
  |[a,b,c],_=>exact⟨a,b,c,rfl⟩
 simp only[List.map_cons,List.map_nil,List.cons.injEq,Prod.mk.injEq,beq_eq_false_iff_ne,and_true]at hf
 obtain⟨⟨n0,t0,o0⟩,⟨n1,t1,o1⟩,n2,t2,o2⟩:=hf
 have la:=ha.len
 have lb:=hb.len
 have p0: ∀t:Hd,j0M t→(part 26 (roA t) 0).run Tryz.prog w= .ok (.agg (j0d 32 t.txs)) w:=fun t kt=>j0U aggIdT (by have:=j1L (x2W kt);rwa[Array.toArray_toList]at this) w
 have p1: ∀t:Hd,j0M t→(part 26 (roA t) 32).run Tryz.prog w= .ok (.agg (j0d 32 t.past)) w:=fun t kt=>j0U aggIdT (by have:=j1L (x08 kt);rwa[Array.toArray_toList]at this) w
 have p2: ∀t:Hd,j0M t→(part 32 (roA t) 64).run Tryz.prog w= .ok (.agg (wcs t.work)) w:=fun t kt=>j0U j88 (by have:=j1L (x0E kt);rwa[Array.toArray_toList]at this) w
 have e0:=j1e 9997 a.txs b.txs la.2.2.1 lb.2.2.1 w
 have e1:=j1e 9997 a.past b.past la.2.2.2 lb.2.2.2 w
 have e2:=j3b 9997 a.work b.work ha.2.2.2.2.2.1 hb.2.2.2.2.2.1 w
 have hd:j9N a b=(eqL a.txs b.txs&& (eqL a.past b.past&& eqN a.work b.work)):=by
  unfold j9N eqL eqN
  rw[Bool.eq_iff_iff]
  simp only[decide_eq_true_eq,Bool.and_eq_true]
 rw[hd]
 rw[j0r (a:= .agg (j0d 32 a.txs)) (b:= .agg (j0d 32 b.txs)) n0 (by rw[t0,o0];exact p0 a la) (by rw[t0,o0];exact p0 b lb) (by rw[t0];exact e0)]
 cases hc0:eqL a.txs b.txs with
 |false=>rfl
 | true=>
  rw[if_pos rfl,j0r (a:= .agg (j0d 32 a.past)) (b:= .agg (j0d 32 b.past)) n1 (by rw[t1,o1];exact p1 a la) (by rw[t1,o1];exact p1 b lb) (by rw[t1];exact e1)]
  cases hc1:eqL a.past b.past with
  |false=>rfl
  |true=>
   rw[if_pos rfl,j0r (a:= .agg (wcs a.work)) (b:= .agg (wcs b.work)) n2 (by rw[t2,o2];exact p2 a la) (by rw[t2,o2];exact p2 b lb) (by rw[t2];exact e2)]
   cases hc2:eqN a.work b.work with
   |false=>rfl
   |true=>rfl
theorem x23:Tryz.prog.eqGuardType Tryz.prog.depth 198=false:=by kernel_rfl
section
variable {a:Act}{dst:Option Tmp}{x y:Operand}{ty:TypeId}{pos:String}{after:Array Edge}{gd:Option (Nat × Bool)}
theorem q9I{s t:Hd}{b:Bool}(hs:okHd s)(ht:okHd t)(hb:j9K s t=b)(u:World)(hx:a.eval x=plV s)(hy:a.eval y=plV t):
  (execOp a.eval ⟨dst, .binOp .eql 195 x y 195,ty,pos,after,gd⟩).run Tryz.prog u= .ok (.value (.bool b)) u:=by
 have h0:=j90 s t hs ht u
 have h:(binOp .eql 195 (plV s) (plV t)).run Tryz.prog u= .ok (.bool (j9K s t)) u:=by
  unfold plV at *
  simp only[binOp]
  simp[h0]
 have hg:=run_eqGuard_agg (P:=Tryz.prog) u .eql 195 x y (plA s) (plA t) x21
 rw[←hb]
 unfold plV at *
 unfold execOp
 simp only[hx,hy,Sem.run_bind,hg,Result.andThen_ok,h,Sem.run_pure]
theorem q8N{s t:Hd}{b:Bool}(hs:okHd s)(ht:okHd t)(hb:j9N s t=b)(u:World)(hx:a.eval x=roV s)(hy:a.eval y=roV t):
  (execOp a.eval ⟨dst, .binOp .eql 198 x y 198,ty,pos,after,gd⟩).run Tryz.prog u= .ok (.value (.bool b)) u:=by
 have h0:=q1g s t hs ht u
 have h:(binOp .eql 198 (roV s) (roV t)).run Tryz.prog u= .ok (.bool (j9N s t)) u:=by
  unfold roV at *
  simp only[binOp]
  simp[h0]
 have hg:=run_eqGuard_agg (P:=Tryz.prog) u .eql 198 x y (roA s) (roA t) x23
 rw[←hb]
 unfold roV at *
 unfold execOp
 simp only[hx,hy,Sem.run_bind,hg,Result.andThen_ok,h,Sem.run_pure]
theorem q4A{k off:Nat}(hk:([(0,0),(1,137)]:List (Nat × Nat)).lookup k=some off){ad:Addr}(u:World)(hx:a.eval x= .pointer (some ad)):
  (execOp a.eval ⟨dst, .fieldAddr 112 x k,ty,pos,after,gd⟩).run Tryz.prog u= .ok (.value (.pointer (some (ad.add off)))) u:=by
 unfold execOp
 simp only[hx]
 rcases k with _|_|k
 all_goals first|(cases hk;go_simp)|cases hk
instance:FldT Tryz.prog 112 [(0,0),(1,137)]:=⟨fun h u k=>q4A h u k⟩
end
theorem q9x(h:Hd)(k:j0M h):Tryz.prog.built 195 [(0, .int .i64 h.height),(1,idv h.prev),(2, .int .u32 h.bits)]=some (plA h):=by
 have z1:(j0d 32 h.prev).size=32:=j0c _ _ (by rw[k.1];omega)
 have e:j0J [(0, .int .i64 h.height),(1,idv h.prev),(2, .int .u32 h.bits)]=plC h:=by simp[j0J,plC,idv,Value.cells]
 have:=j2m (t:=195) (n:=34) underlying195 (by kernel_rfl) (places:=[(0,1),(1,32),(33,1)]) (by kernel_rfl) (ps:=[(0, .int .i64 h.height),(1,idv h.prev),(2, .int .u32 h.bits)]) (by
  refine⟨?_,?_,?_,trivial⟩
  · rfl
  · show some (1,32)=some (0+1,(j0d 32 h.prev).size)
    rw[z1]
  · show some (33,1)=some (0+1+(j0d 32 h.prev).size,1)
    rw[z1]) (by rw[e,q50 k])
 rw[this,e]
 rfl
theorem x0X(h:Hd)(k:j0M h):Tryz.prog.built 198 [(0,idv h.txs),(1,idv h.past),(2, .agg (wcs h.work))]=some (roA h):=by
 have z1:(j0d 32 h.txs).size=32:=j0c _ _ (by rw[k.2.2.1];omega)
 have z2:(j0d 32 h.past).size=32:=j0c _ _ (by rw[k.2.2.2];omega)
 have z3:=j0s h.work
 have e:j0J [(0,idv h.txs),(1,idv h.past),(2, .agg (wcs h.work))]=roC h:=by simp[j0J,roC,idv,Value.cells]
 have:=j2m (t:=198) (n:=68) underlying198 (by kernel_rfl) (places:=[(0,32),(32,32),(64,4)]) (by kernel_rfl) (ps:=[(0,idv h.txs),(1,idv h.past),(2, .agg (wcs h.work))]) (by
  refine⟨?_,?_,?_,trivial⟩
  · show some (0,32)=some (0,(j0d 32 h.txs).size)
    rw[z1]
  · show some (32,32)=some (0+(j0d 32 h.txs).size,(j0d 32 h.past).size)
    rw[z1,z2]
  · show some (64,4)=some (0+(j0d 32 h.txs).size+(j0d 32 h.past).size,(wcs h.work).size)
    rw[z1,z2,z3]) (by rw[e,q7c k])
 rw[this,e]
 rfl
def trC(b d:BlkM):List Value:=j04 b++j04 d
def trA(b d:BlkM):Array Value:=(trC b d).toArray
def trV(b d:BlkM):Value:= .agg (trA b d)
theorem q2c{b d:BlkM}(k:j0M b.h)(q:j0M d.h):(trC b d).length=274:=by unfold trC;rw[lA,j0y k,j0y q]
theorem j4T{b d:BlkM}(k:j0M b.h)(q:j0M d.h):(trA b d).size=274:=by unfold trA;rw[List.size_toArray,q2c k q]
theorem q8B(b d:BlkM):(trA b d).all (·.oneCell')=true:=by
 rw[Array.all_eq_true]
 intro i hi
 have h:(trA b d)[i]∈(trA b d).toList:=Array.mem_toList_iff.2 (Array.getElem_mem hi)
 rcases List.mem_append.1 (show (trA b d)[i]∈j04 b++j04 d from h)with h|h
 · exact j09 b _ h
 · exact j09 d _ h
theorem aggTr:AggT 112 274:=⟨fun w=>by simp[isAgg,run_underlying underlying112],by kernel_rfl⟩
theorem x1o(cs:Array Value)(h:cs.size=274):(Tryz.prog.info? 112).map (·.size)=some cs.size:=by rw[h];exact aggTr.size
theorem x0M:trA noBlkM noBlkM=zeroCells112:=by kernel_rfl
theorem x1k{dst:Option Tmp}{ty:TypeId}{pos:String}{after:Array Edge}{gd:Option (Nat × Bool)}(a:Act):j3r Tryz.prog ⟨dst, .alloc 112,ty,pos,after,gd⟩ a (.cells (trA noBlkM noBlkM) 112 (0,0)):=fun u=>by
 rw[x0M]
 go_simp
theorem q3B{b d:BlkM}(k:j0M b.h)(q:j0M d.h):Tryz.prog.built 112 [(0,j1O b),(1,j1O d)]=some (trA b d):=by
 have z1:=j0O k
 have z2:=j0O q
 have e:j0J [(0,j1O b),(1,j1O d)]=trC b d:=by simp[j0J,trC,j1O,j0L,Value.cells]
 have:=j2m (t:=112) (n:=274) underlying112 (by kernel_rfl) (places:=[(0,137),(137,137)]) (by kernel_rfl) (ps:=[(0,j1O b),(1,j1O d)]) (by
  refine⟨?_,?_,trivial⟩
  · show some (0,137)=some (0,(j0L b).size)
    rw[z1]
  · show some (137,137)=some (0+(j0L b).size,(j0L d).size)
    rw[z1,z2]) (by rw[e,q2c k q])
 rw[this,e]
 rfl
section
variable {w0 u:World}{M:j0e}{g:Nat}{ty:TypeId}{b d:BlkM}
theorem j4L(hu:EnvC w0 M u)(hm:(g,oc (trA b d) ty)∈M)(k:j0M b.h)(q:j0M d.h):(loadVar 112 ⟨g,0,none⟩).run Tryz.prog u= .ok (trV b d) u:=j0F aggTr (trC b d) (q2c k q) (j1a hu hm)
theorem x1e(hu:EnvC w0 M u)(hm:(g,oc (trA b d) ty)∈M)(k:j0M b.h): ∀(j:Nat)(v:Value),(j04 b)[j]?=some v→u.cell? ((⟨g,0,none⟩:Addr).add j)=some v:=fun j v hj=>j1a hu hm j v (by
 have hl:j<(j04 b).length:=by
  rcases Nat.lt_or_ge j (j04 b).length with h|h
  · exact h
  · rw[gN h]at hj;cases hj
 unfold trC
 rw[List.getElem?_append_left hl]
 exact hj)
theorem q3E(hu:EnvC w0 M u)(hm:(g,oc (trA b d) ty)∈M)(k:j0M b.h): ∀(j:Nat)(v:Value),(j04 d)[j]?=some v→u.cell? ((⟨g,137,none⟩:Addr).add j)=some v:=fun j v hj=>by
 have h:=j1a hu hm (137+j) v (by
  unfold trC
  rw[List.getElem?_append_right (by rw[j0y k];omega),j0y k,Nat.add_sub_cancel_left]
  exact hj)
 rw[Addr.add_mid,Nat.zero_add]at h
 rw[Addr.add_mid]
 exact h
theorem q7T(hu:EnvC w0 M u)(hm:(g,oc (trA b d) ty)∈M)(k:j0M b.h): ∀(j:Nat)(v:Value),(hdC b.h)[j]?=some v→u.cell? ((⟨g,0,none⟩:Addr).add j)=some v:=fun j v hj=>x1e hu hm k j v ((j1M k).1 j v hj)
theorem q1z(hu:EnvC w0 M u)(hm:(g,oc (trA b d) ty)∈M)(k:j0M b.h)(q:j0M d.h): ∀(j:Nat)(v:Value),(hdC d.h)[j]?=some v→u.cell? ((⟨g,137,none⟩:Addr).add j)=some v:=fun j v hj=>q3E hu hm k j v ((j1M q).1 j v hj)
theorem x4M(hu:EnvC w0 M u)(hm:(g,oc (trA b d) ty)∈M)(k:j0M b.h):(loadVar 35 ⟨g,135,none⟩).run Tryz.prog u= .ok (.slice b.A1 b.n1 b.c1) u:=j0f j7A u (by have:=x1e hu hm k 135 _ (j1M k).2.1;rwa[Addr.add_mid,Nat.zero_add]at this)
theorem x1b(hu:EnvC w0 M u)(hm:(g,oc (trA b d) ty)∈M)(k:j0M b.h)(q:j0M d.h):(loadVar 35 ⟨g,272,none⟩).run Tryz.prog u= .ok (.slice d.A1 d.n1 d.c1) u:=j0f j7A u (by have:=q3E hu hm k 135 _ (j1M q).2.1;rwa[Addr.add_mid]at this)
end
theorem q4L(p:List CoinR):j3h p=(decide (p.length≤48) && (decide (upP p) && !p.any (fun c=>!j1c c))):=by
 unfold j3h
 rw[Bool.eq_iff_iff]
 simp only[decide_eq_true_eq,Bool.and_eq_true,Bool.not_eq_true',List.any_eq_false,Bool.not_eq_true',Bool.not_eq_false]
 constructor
 · rintro⟨h1,h2,h3⟩
   exact⟨h1,h3,fun c hc=>by rw[h2 c hc]⟩
 · rintro⟨h1,h2,h3⟩
   refine⟨h1,fun c hc=>?_,h2⟩
   have:=h3 c hc
   cases hb:j1c c with
   |true=>rfl
   |false=>rw[hb]at this;first|cases this|exact absurd rfl this
theorem j6h{p:List CoinR}(hu:upP p){i j:Nat}(hij:i<j)(hj:j<p.length):j0u (j0W (p.getD i j1w)) (j0W (p.getD j j1w))=true:=by
 have h:=(List.pairwise_iff_getElem.1 hu) i j (by omega) hj hij
 rw[gD,gE (show i<p.length by omega),gD,gE hj]
 exact h
theorem idP.get{p:List CoinR}(h:idP p){j:Nat}(hj:j<p.length):j3C (j0W (p.getD j j1w)).tx:=by
 rw[gD,gE hj]
 exact h _ (List.getElem_mem hj)
def j00:List CoinR→InR→Nat
  |[],_=>0
  |c::r,x=>if j0u (j0W c) x then j00 r x+1 else 0
theorem j4u: ∀(p:List CoinR)(x:InR),j00 p x≤p.length
 |[],_=>Nat.le_refl _
 |c::r,x=>by
  unfold j00
  split
  · have:=j4u r x
    rw[List.length_cons];omega
  · exact Nat.zero_le _
theorem j3T: ∀(p:List CoinR)(x:InR)(j:Nat),j<j00 p x→j0u (j0W (p.getD j j1w)) x=true
 |[],_,j,h=>by cases h
 |c::r,x,j,h=>by
  unfold j00 at h
  split at h
  · rename_i hb
    cases j with
    |zero=>exact hb
    |succ j=>exact j3T r x j (by omega)
  · cases h
theorem j3Q: ∀(p:List CoinR)(x:InR),j00 p x<p.length→j0u (j0W (p.getD (j00 p x) j1w)) x=false
 |[],_,h=>by cases h
 |c::r,x,h=>by
  unfold j00 at h ⊢
  split
  · rename_i hb
    rw[if_pos hb,List.length_cons]at h
    exact j3Q r x (by omega)
  · rename_i hb
    simpa using hb
theorem q7h{p:List CoinR}{x:InR}(hp:idP p)(hx:j3C x.tx)(hu:upP p){j:Nat}(h1:j00 p x≤j)(h2:j<p.length):j0u (j0W (p.getD j j1w)) x=false:=by
 rcases Nat.lt_or_ge (j00 p x) j with h|h
 · have ha:=j3Q p x (by omega)
   have hb:=j6h hu h h2
   cases hc:j0u (j0W (p.getD j j1w)) x with
   |false=>rfl
   |true=>
    have:=j31 (hp.get (by omega)) (hp.get h2) hx hb hc
    rw[ha]at this
    cases this
 · have e:j=j00 p x:=by omega
   subst e
   exact j3Q p x h2
theorem q74{p:List CoinR}{x:InR}{k:Nat}(h1:k≤p.length)(h2: ∀j,j<k→j0u (j0W (p.getD j j1w)) x=true)(h3: ∀j,k≤j→j<p.length→j0u (j0W (p.getD j j1w)) x=false):j00 p x=k:=by
 rcases Nat.lt_trichotomy (j00 p x) k with h|h|h
 · have a:=j3Q p x (by omega)
   rw[h2 _ h]at a
   cases a
 · exact h
 · have a:=j3T p x k h
   rw[h3 k (Nat.le_refl _) (by have:=j4u p x;omega)]at a
   cases a
theorem q2B{p:List CoinR}{x:InR}(hp:idP p)(hx:j3C x.tx)(hu:upP p):j4s p x=if j00 p x<p.length∧j0W (p.getD (j00 p x) j1w)=x then (j00 p x:Int)else-1:=by
 split
 · rename_i h
   refine q5b h.1 h.2 fun j hj=>x3H (hp.get (by omega)) (j3T p x j hj)
 · rename_i h
   refine q12 fun j hj e=>?_
   rcases Nat.lt_trichotomy j (j00 p x)with g|g|g
   · have:=j3T p x j g
     rw[e,q7x hx]at this
     cases this
   · subst g
     exact h ⟨hj,e⟩
   · have a:=j3Q p x (by omega)
     have b:=j6h hu g hj
     rw[e,a]at b
     cases b
theorem x3I{a b:List Int}(ha:j3C a)(hb:j3C b)(h1:j2n a b=false)(h2:j2n b a=false):a=b:=by
 rcases j48 32 a b ha.1 hb.1 with ⟨x,_,_⟩|⟨_,y,_⟩|⟨_,_,z⟩
 · rw[x]at h1;cases h1
 · rw[y]at h2;cases h2
 · exact of_decide_eq_true z
theorem q1S{p:List CoinR}{id:List Int}(hp:idP p)(hid:j3C id)(hu:upP p)(hi: ∀c∈p,0≤c.i):j19 p id=(decide (j00 p ⟨id,0⟩<p.length) && decide ((p.getD (j00 p ⟨id,0⟩) j1w).tx=id)):=by
 rw[Bool.eq_iff_iff]
 simp only[Bool.and_eq_true,decide_eq_true_eq]
 constructor
 · intro h
   unfold j19 at h
   rw[List.any_eq_true]at h
   obtain⟨c,hc,e⟩:=h
   have e:c.tx=id:=of_decide_eq_true e
   obtain⟨j,hj,rfl⟩:=List.getElem_of_mem hc
   have hge:p.getD j j1w=p[j]:=by rw[gD,gE hj];rfl
   have hi0:=hi _ hc
   have hnb:j0u (j0W (p.getD j j1w)) ⟨id,0⟩=false:=by
    rw[hge]
    unfold j0u j0W
    simp only
    rw[e,j46 hid.1]
    simp
    omega
   have hle:j00 p ⟨id,0⟩≤j:=by
    rcases Nat.lt_or_ge j (j00 p ⟨id,0⟩)with g|g
    · rw[j3T p _ j g]at hnb;cases hnb
    · exact g
   refine⟨by omega,?_⟩
   rcases Nat.lt_or_ge (j00 p ⟨id,0⟩) j with g|g
   · have ha:=j3Q p ⟨id,0⟩ (by omega)
     have hb:=j6h hu g hj
     rw[hge]at hb
     have hq:=hp.get (show j00 p ⟨id,0⟩<p.length by omega)
     generalize p.getD (j00 p ⟨id,0⟩) j1w=d at *
     have h1:j2n d.tx id=false:=by
      unfold j0u j0W at ha
      simp only[Bool.or_eq_false_iff]at ha
      exact ha.1
     have h2:j2n id d.tx=false:=by
      cases hl:j2n id d.tx with
      |false=>rfl
      |true=>
       unfold j0u j0W at hb
       simp only[Bool.or_eq_true,Bool.and_eq_true,decide_eq_true_eq]at hb
       rw[e]at hb
       rcases hb with hb|hb
       · rw[h1]at hb;cases hb
       · rw[hb.1,j46 hid.1]at hl;cases hl
     exact x3I hq hid h1 h2
   · have e2:j=j00 p ⟨id,0⟩:=by omega
     rw[←e2,hge]
     exact e
 · rintro⟨h1,h2⟩
   exact q46 h1 h2
theorem q0j: ∀(a b:List CoinR)(c:CoinR),(∀d∈a,j0u (j0W c) (j0W d)=false)→(∀d∈b,j0u (j0W c) (j0W d)=true)→j5o (a++b) c=a++c::b
 |[],[],c,_,_=>rfl
 |[],d::b,c,_,h2=>by
  show j5o (d::b) c=c::d::b
  unfold j5o
  rw[if_pos (h2 d (List.mem_cons_self ..))]
 |d::a,b,c,h1,h2=>by
  show j5o (d::(a++b)) c=d::(a++c::b)
  unfold j5o
  rw[if_neg (by rw[h1 d (List.mem_cons_self ..)];decide),q0j a b c (fun x hx=>h1 x (mT hx)) h2]
theorem q3I{id:List Int}(hid:j3C id): ∀(os:List OutR)(i:Int)(a b:List CoinR),0≤i→(∀d∈a,∀j,i≤j→j0u ⟨id,j⟩ (j0W d)=false)→(∀d∈b,∀j,j0u ⟨id,j⟩ (j0W d)=true)→j1y (a++b) (j18 id i os)=a++j18 id i os++b
 |[],i,a,b,_,_,_=>by
  show a++b=a++[]++b
  simp
 |o::os,i,a,b,h0,h1,h2=>by
  show j1y (j5o (a++b) ⟨id,i,o.v,o.tw⟩) (j18 id (i+1) os)=a++(⟨id,i,o.v,o.tw⟩::j18 id (i+1) os)++b
  rw[q0j a b ⟨id,i,o.v,o.tw⟩ (fun d hd=>h1 d hd i (Int.le_refl _)) (fun d hd=>h2 d hd i)]
  have:=q3I hid os (i+1) (a++[⟨id,i,o.v,o.tw⟩]) b (by omega) (fun d hd j hj=>?_) h2
  · simp only[aA,List.cons_append,List.nil_append]at this ⊢
    exact this
  · rcases List.mem_append.1 hd with h|h
    · exact h1 d h j (by omega)
    · cases mS.1 h
      unfold j0u j0W
      simp only
      rw[j46 hid.1]
      simp
      omega
theorem q4F{p:List CoinR}{id:List Int}(hp:idP p)(hid:j3C id)(hu:upP p)(ht:j19 p id=false)(os:List OutR):
   j1y p (j18 id 0 os)=p.take (j00 p ⟨id,0⟩)++j18 id 0 os++p.drop (j00 p ⟨id,0⟩):=by
 have h:=q3I hid os 0 (p.take (j00 p ⟨id,0⟩)) (p.drop (j00 p ⟨id,0⟩)) (Int.le_refl _) (fun d hd j hj=>?_) (fun d hd j=>?_)
 · rwa[List.take_append_drop]at h
 · obtain⟨k,hk,rfl⟩:=List.getElem_of_mem hd
   rw[List.length_take]at hk
   have hlt:=j3T p ⟨id,0⟩ k (by omega)
   have hkp:k<p.length:=by omega
   have hkey:=hp.get hkp
   rw[List.getElem_take]
   have hge:p.getD k j1w=p[k]:=by rw[gD,gE hkp];rfl
   rw[hge]at hlt hkey
   cases hb:j0u ⟨id,j⟩ (j0W p[k])with
   |false=>rfl
   | true=>
     have:=j31 (a:=⟨id,j⟩) (b:=j0W p[k]) (c:=⟨id,0⟩) hid hkey hid hb hlt
     unfold j0u at this
     simp only at this
     rw[j46 hid.1]at this
     simp at this
     omega
 · obtain⟨k,hk,rfl⟩:=List.getElem_of_mem hd
   rw[List.length_drop]at hk
   rw[List.getElem_drop]
   have hkp:j00 p ⟨id,0⟩+k<p.length:=by omega
   have hnb:=q7h hp (x:=⟨id,0⟩) hid hu (j:=j00 p ⟨id,0⟩+k) (by omega) hkp
   have hkey:=hp.get hkp
   have hge:p.getD (j00 p ⟨id,0⟩+k) j1w=p[j00 p ⟨id,0⟩+k]:=by rw[gD,gE hkp];rfl
   rw[hge]at hnb hkey
   have hne:p[j00 p ⟨id,0⟩+k].tx≠id:=q0F ht _ (List.getElem_mem hkp)
   generalize p[j00 p ⟨id,0⟩+k]=d at *
   have hb:=q5O (a:=j0W d) (b:=⟨id,0⟩) hkey hid hnb (fun e=>hne (congrArg InR.tx e))
   unfold j0u j0W at hb ⊢
   simp only[Bool.or_eq_true,Bool.and_eq_true,decide_eq_true_eq]at hb ⊢
   rcases hb with hb|hb
   · exact .inl hb
   · exact absurd hb.1.symm hne
theorem j7S{p:List CoinR}{xs:List TxR}{i:Nat}(d:TxR)(hi:i<xs.length){q:List CoinR}{n:Int}(h:j3U p 0 (xs.take i)= .ok (q,n)){q2:List CoinR}{m:Int}(hs:j0x q (xs.getD i d)=(q2,m,0)):j3U p 0 (xs.take (i+1))= .ok (q2,n+m):=by
 rw[j3o d hi,j9s,h]
 simp only
 unfold j3U
 rw[hs]
 rfl
theorem j7b{p:List CoinR}{xs:List TxR}{i:Nat}(d:TxR)(hi:i<xs.length){q:List CoinR}{n:Int}(h:j3U p 0 (xs.take i)= .ok (q,n)){q2:List CoinR}{m:Int}{e:Nat}(hs:j0x q (xs.getD i d)=(q2,m,e+1)):j3U p 0 xs= .error (e+1):=by
 have e1:xs=xs.take i++(xs.getD i d::xs.drop (i+1)):=by
  have h1:=List.take_append_drop (i+1) xs
  rw[j3o d hi,aA]at h1
  exact h1.symm
 rw[e1,j9s,h]
 simp only
 unfold j3U
 rw[hs]
theorem j8I(a b:InR)(w:World)(ha:j3e a)(hb:j3e b):
  Rz 225 #[inV a,inV b] w (.bool (j0u a b)):=by
 unfold Rz
 have HA:=hD ha
 have HB:=hD hb
 have HLS:Hid (∀u,Calls Tryz.prog 233 #[idv a.tx,idv b.tx] u fun e w'=>e= .returned (.bool (j2n a.tx b.tx))∧Below u.heap.size u w'):=fun u=>x0C a.tx b.tx u ha hb
 have E1:Hid (EnvX w ((w.alloc (.cells (inA a) 133)).alloc (.cells (inA b) 133)) [(w.heap.size+1,oc (inA b) 133),(w.heap.size,oc (inA a) 133)]):=(EnvX.start w).two _ _
 obtain⟨b2,h2⟩: ∃b2,eqL a.tx b.tx=b2:=⟨_,rfl⟩
 have HE:=hD h2
 have hirr:eqL a.tx b.tx=true→j2n a.tx b.tx=false:=fun h=>by rw[of_decide_eq_true h];exact j46 hb
 have HF1:Hid (b2=true→j0u a b=decide (a.i<b.i)):=fun h=>by
  rw[←h2]at h
  unfold j0u
  rw[hirr h,show decide (a.tx=b.tx)=true from h]
  simp
 have HF2:Hid (b2=false→j0u a b=j2n a.tx b.tx):=fun h=>by
  rw[←h2]at h
  unfold j0u
  rw[show decide (a.tx=b.tx)=false from h]
  simp
 clear ha hb h2 hirr
 unfold inV
 cases b2 with
 |true=>
  obtain⟨b3,h3⟩: ∃b3,decide (a.i<b.i)=b3:=⟨_,rfl⟩
  have HI:=hD h3
  have HF:Hid (j0u a b=b3):=by show _=_;rw[HF1.out rfl,h3]
  clear h3
  go_enter func225,ntmps225
  go_upto_region 1 with (fail)
  generalize (w.alloc (.cells (inA a) 133)).alloc (.cells (inA b) 133)=W at *
  refine rgQ [0,1,2,3,4] [] E1 rfl fun hw=>?_
  refine qf rfl hw ?_
  refine ql rfl (mT mH) HA.out hw ?_
  refine qf rfl hw ?_
  refine ql rfl mH HB.out hw ?_
  refine qv rfl (fun u hu=>j6n HA.out HB.out HE.out u rfl rfl) hw ?_
  refine enP fun u3 EX2=>?_
  go_upto_region 2 with (fail)
  refine rgQ [0,1,2,3,4,5] [] EX2 rfl fun hw=>?_
  refine qf rfl hw ?_
  refine ql rfl (mT mH) HA.out hw ?_
  refine qf rfl hw ?_
  refine ql rfl mH HB.out hw ?_
  refine qv rfl (fun u hu=>j0o u HI.out rfl rfl) hw ?_
  refine qo rfl hw ?_
  refine enP fun u6 EX5=>?_
  have HBE:=hD (EnvX.bel EX5.out)
  go_wp2
  go_ret
  exact⟨by rw[HF.out];first|done|rfl,HBE.out⟩
 |false=>
  have HF:Hid (j0u a b=j2n a.tx b.tx):=HF2.out rfl
  generalize j2n a.tx b.tx=b3 at *
  go_enter func225,ntmps225
  go_upto_region 1 with (fail)
  generalize (w.alloc (.cells (inA a) 133)).alloc (.cells (inA b) 133)=W at *
  refine rgQ [0,1,2,3,4] [] E1 rfl fun hw=>?_
  refine qf rfl hw ?_
  refine ql rfl (mT mH) HA.out hw ?_
  refine qf rfl hw ?_
  refine ql rfl mH HB.out hw ?_
  refine qv rfl (fun u hu=>j6n HA.out HB.out HE.out u rfl rfl) hw ?_
  refine enP fun u3 EX2=>?_
  go_upto_region 3 with (fail)
  refine rgQ [0,1,2,3,4,5] [] EX2 rfl fun hw=>?_
  refine qf rfl hw ?_
  refine ql rfl (mT mH) HA.out hw ?_
  refine qf rfl hw ?_
  refine ql rfl mH HB.out hw ?_
  refine qc rfl func233 (fun u hu=>HLS.out u) hw ?_
  refine qo rfl hw ?_
  refine enP fun u6 EX5=>?_
  have HBE:=hD (EnvX.bel EX5.out)
  go_wp2
  go_ret
  exact⟨by rw[HF.out];first|done|rfl,HBE.out⟩
theorem q0S (p:List CoinR) (A:Option Addr) (n c:Nat) (w:World) (hl:p.length=n) (hnc:n≤c) (hcm:c≤maxLen) (hI:okP p) (hA:CoinsIn w w.heap.size A p):
  Rz 207 #[.slice A n c] w (.bool (decide (upP p))):=by
 unfold Rz
 have HL:=hD hl
 have HPP:=hD hI
 have HAA:=hD hA
 have HN63:Hid (n<9223372036854775808):=by show _<_;unfold maxLen at hcm;omega
 have E1:Hid (EnvX w w []):=EnvX.start w
 clear hl hnc hcm hI hA
 go_enter func207,ntmps207
 go_upto_region 2 with (fail)
 go_loopw [3] (fun iv u=> ∃i:Nat,1≤i∧(i≤n∨i=1)∧iv= .int .i64 (i:Int)∧Hid ((∀j,j+1<i→j0u (j0W (p.getD j j1w)) (j0W (p.getD (j+1) j1w))=true)∧EnvX w u [])) (fun iv _=>n- (intOf iv).toNat)
 case atStart=>exact⟨1,by omega, .inr rfl,rfl,(fun j hj=>by omega),E1.out⟩
 case round=>
  obtain⟨i,hi1,hi,rfl,hinv⟩:=hrel
  have H1:=hD hinv.out.1
  have EK:=hD hinv.out.2
  clear hinv E1
  by_cases hlt:i<n
  · obtain⟨k,rfl⟩: ∃k,i=k+1:=⟨i- 1,by omega⟩
    have C2:Hid (decide (((k+1:Nat):Int)<(n:Int))=true):=decide_eq_true (by omega)
    have HI:Hid (k+1<n):=hlt
    have HK:Hid (k<n):=by show _<_;omega
    have hil:k+1<p.length:=by rw[HL.out];exact hlt
    have HIL:=hD hil
    obtain⟨ad,rfl,-,hld⟩:=HAA.out.loads HPP.out hil
    have HLD:=hD hld
    obtain⟨ad2,e2,-,hld2⟩:=HAA.out.loads HPP.out (show k<p.length by omega)
    cases e2
    have HLK:=hD hld2
    have HX:Hid (j4I (p.getD (k+1) j1w)):=(x0p HPP.out hil).len
    have HY:Hid (j4I (p.getD k j1w)):=(x0p HPP.out (show k<p.length by omega)).len
    have HSB:Hid (IntKind.i64.wrap (((k+1:Nat):Int) - 1)=(k:Int)):=by show _=_;have h2:=HN63.out;rw[j6R (by omega)];omega
    obtain⟨b,hb⟩: ∃b,j0u (j0W (p.getD k j1w)) (j0W (p.getD (k+1) j1w))=b:=⟨_,rfl⟩
    have HBV:=hD hb
    have HBF:Hid (∀u,Calls Tryz.prog 225 #[inV (j0W (p.getD k j1w)),inV (j0W (p.getD (k+1) j1w))] u fun e w'=>e= .returned (.bool b)∧Below u.heap.size u w'):=fun u=>by
     have h:=j8I (j0W (p.getD k j1w)) (j0W (p.getD (k+1) j1w)) u HY.out HX.out
     rwa[hb]at h
    clear hld hld2 hb hil hlt hi hi1
    generalize hx:p.getD (k+1) j1w=x at HLD HX HBF HBV
    generalize hy:p.getD k j1w=y at HLK HY HBF HBV
    have HXE:=hD hx
    have HYE:=hD hy
    clear hx hy
    go_upto_region 2 with (fail)
    refine rgQ [0,1,2,3] [] EK rfl fun hw=>?_
    refine qw 2 hw ?_
    refine qv rfl (fun u hu=>j0l underlying39 HN63.out u rfl) hw ?_
    refine qv rfl (fun u hu=>j0o u C2.out rfl rfl) hw ?_
    refine enP fun u13 EX12=>?_
    cases b with
    | false=>
     have HF:Hid (decide (upP p)=false):=decide_eq_false fun hu=>by
      have h:=j6h hu (i:=k) (j:=k+1) (by omega) HIL.out
      rw[HXE.out,HYE.out,HBV.out]at h
      cases h
     go_upto_region 4 with (fail)
     refine rgK [0,1,2,3,4,5,6,7,8,9,10,11,12] 0 EX12 rfl fun hw=>?_
     refine qw 2 hw ?_
     refine qv rfl (fun u hu=>j9j u HSB.out rfl rfl) hw ?_
     refine qv rfl (fun u hu=>j0h underlying39 aggCo.size HK.out u rfl rfl) hw ?_
     refine qv (v:= .pointer (some ((ad.add (k*35)).add 0))) rfl (fun u hu=>j1Y (k:=0) (off:=0) rfl u rfl) hw ?_
     refine qv (v:=inV (j0W y)) rfl (fun u hu=>j0a u (by have h:=(HLK.out u (nl hu)).2.1;rwa[show ((ad.add (k*35)).add 0)=ad.add (k*35)by unfold Addr.add;rfl]) rfl) hw ?_
     refine qw 2 hw ?_
     refine qv (v:= .pointer (some (ad.add ((k+1)*35)))) rfl (fun u hu=>j0h (i:=(k+1)) underlying39 aggCo.size HI.out u rfl rfl) hw ?_
     refine qv (v:= .pointer (some ((ad.add ((k+1)*35)).add 0))) rfl (fun u hu=>j1Y (k:=0) (off:=0) rfl u rfl) hw ?_
     refine qv (v:=inV (j0W x)) rfl (fun u hu=>j0a u (by have h:=(HLD.out u (nl hu)).2.1;rwa[show ((ad.add ((k+1)*35)).add 0)=ad.add ((k+1)*35)by unfold Addr.add;rfl]) rfl) hw ?_
     refine qc rfl func225 (fun u hu=>HBF.out u) hw ?_
     refine qo rfl hw ?_
     refine eH fun u16 EX15=>?_
     go_upto_region 5 with (fail)
     refine rgQ [0] [] EX15 rfl fun hw=>?_
     refine qo rfl hw ?_
     refine enP fun u19 EX18=>?_
     have HBE:=hD (EnvX.bel EX18.out)
     go_wp2
     go_ret
     exact⟨by rw[HF.out];first|done|rfl,HBE.out⟩
    | true=>
     have H3:Hid (∀j,j+1<k+1+1→j0u (j0W (p.getD j j1w)) (j0W (p.getD (j+1) j1w))=true):=fun j hj=>by
      rcases Nat.lt_or_ge (j+1) (k+1)with h|h
      · exact H1.out j h
      · obtain rfl:j=k:=by omega
        rw[HYE.out,HXE.out]
        exact HBV.out
     go_upto_region 4 with (fail)
     refine rgK [0,1,2,3,4,5,6,7,8,9,10,11,12] 0 EX12 rfl fun hw=>?_
     refine qw 2 hw ?_
     refine qv rfl (fun u hu=>j9j u HSB.out rfl rfl) hw ?_
     refine qv rfl (fun u hu=>j0h underlying39 aggCo.size HK.out u rfl rfl) hw ?_
     refine qv (v:= .pointer (some ((ad.add (k*35)).add 0))) rfl (fun u hu=>j1Y (k:=0) (off:=0) rfl u rfl) hw ?_
     refine qv (v:=inV (j0W y)) rfl (fun u hu=>j0a u (by have h:=(HLK.out u (nl hu)).2.1;rwa[show ((ad.add (k*35)).add 0)=ad.add (k*35)by unfold Addr.add;rfl]) rfl) hw ?_
     refine qw 2 hw ?_
     refine qv (v:= .pointer (some (ad.add ((k+1)*35)))) rfl (fun u hu=>j0h (i:=(k+1)) underlying39 aggCo.size HI.out u rfl rfl) hw ?_
     refine qv (v:= .pointer (some ((ad.add ((k+1)*35)).add 0))) rfl (fun u hu=>j1Y (k:=0) (off:=0) rfl u rfl) hw ?_
     refine qv (v:=inV (j0W x)) rfl (fun u hu=>j0a u (by have h:=(HLD.out u (nl hu)).2.1;rwa[show ((ad.add ((k+1)*35)).add 0)=ad.add ((k+1)*35)by unfold Addr.add;rfl]) rfl) hw ?_
     refine qc rfl func225 (fun u hu=>HBF.out u) hw ?_
     refine qo rfl hw ?_
     refine eH fun u16 EX15=>?_
     have hii:=HI.out
     have hn:=HN63.out
     go_wp2
     go_roundw
     case rel=>exact⟨k+1+1,by omega, .inl (by omega),by go_num,H3.out,EX15.out⟩
     case measure=>simp[intOf];omega
  · have C2:Hid (decide ((i:Int)<(n:Int))=false):=decide_eq_false (by omega)
    have HF:Hid (decide (upP p)=true):=decide_eq_true (q9B HPP.out.id (fun j hj=>H1.out j (by have:=HL.out;omega)))
    clear hlt hi hi1
    go_upto_region 2 with (fail)
    refine rgQ [0,1,2,3] [] EK rfl fun hw=>?_
    refine qw 2 hw ?_
    refine qv rfl (fun u hu=>j0l underlying39 HN63.out u rfl) hw ?_
    refine qv rfl (fun u hu=>j0o u C2.out rfl rfl) hw ?_
    refine enP fun u203 EX202=>?_
    go_upto_region 6 with (fail)
    refine rgQ [0] [] EX202 rfl fun hw=>?_
    refine qo rfl hw ?_
    refine enP fun u206 EX205=>?_
    have HBE:=hD (EnvX.bel EX205.out)
    go_wp2
    go_ret
    exact⟨by rw[HF.out];first|done|rfl,HBE.out⟩
theorem q2b(x:CoinR)(w:World)(hx:j4I x):
   Rz 209 #[coV x] w (.bool (!j1c x)):=by
 unfold Rz
 have HX:=hD hx
 have E1:Hid (EnvX w (w.alloc (.cells (coA x) 137)) [(w.heap.size,oc (coA x) 137)]):=(EnvX.start w).new _
 clear hx
 unfold coV
 by_cases c0:x.i<0
 · have B0:Hid (decide (x.i<0)=true):=decide_eq_true c0
   have HF:Hid ((!j1c x)=true):=by
    have h:j1c x=false:=decide_eq_false (by omega)
    show _=_
    rw[h]
    rfl
   clear c0
   go_enter func209,ntmps209
   go_upto_region 1 with (fail)
   generalize w.alloc (.cells (coA x) 137)=W at *
   refine rgQ [0,1,2,3,4,5,6,7,8,9,10,11,12,13,14,15,16,17,18,19,20,21,22,23,24,25,26,27,28,29,30,31,32,33,34] [] E1 rfl fun hw=>?_
   refine qw 2 hw ?_
   refine ql rfl mH HX.out hw ?_
   refine qv rfl (fun u hu=>j0o u B0.out rfl rfl) hw ?_
   refine qw 31 hw ?_
   refine enP fun u3 EX2=>?_
   have HBE:=hD (EnvX.bel EX2.out)
   go_wp2
   go_ret
   exact⟨by rw[HF.out];first|done|rfl,HBE.out⟩
 have B0:Hid (decide (x.i<0)=false):=decide_eq_false c0
 by_cases c1:2<x.i
 · have B1:Hid (decide (2<x.i)=true):=decide_eq_true c1
   have HF:Hid ((!j1c x)=true):=by
    have h:j1c x=false:=decide_eq_false (by omega)
    show _=_
    rw[h]
    rfl
   clear c0 c1
   go_enter func209,ntmps209
   go_upto_region 1 with (fail)
   generalize w.alloc (.cells (coA x) 137)=W at *
   refine rgQ [0,1,2,3,4,5,6,7,8,9,10,11,12,13,14,15,16,17,18,19,20,21,22,23,24,25,26,27,28,29,30,31,32,33,34] [] E1 rfl fun hw=>?_
   refine qw 2 hw ?_
   refine ql rfl mH HX.out hw ?_
   refine qv rfl (fun u hu=>j0o u B0.out rfl rfl) hw ?_
   refine qw 3 hw ?_
   refine ql rfl mH HX.out hw ?_
   refine qv rfl (fun u hu=>j1m u B1.out rfl rfl) hw ?_
   refine qw 26 hw ?_
   refine enP fun u3 EX2=>?_
   have HBE:=hD (EnvX.bel EX2.out)
   go_wp2
   go_ret
   exact⟨by rw[HF.out];first|done|rfl,HBE.out⟩
 have B1:Hid (decide (2<x.i)=false):=decide_eq_false c1
 by_cases c2:x.v<1
 · have B2:Hid (decide (x.v<1)=true):=decide_eq_true c2
   have HF:Hid ((!j1c x)=true):=by
    have h:j1c x=false:=decide_eq_false (by omega)
    show _=_
    rw[h]
    rfl
   clear c0 c1 c2
   go_enter func209,ntmps209
   go_upto_region 1 with (fail)
   generalize w.alloc (.cells (coA x) 137)=W at *
   refine rgQ [0,1,2,3,4,5,6,7,8,9,10,11,12,13,14,15,16,17,18,19,20,21,22,23,24,25,26,27,28,29,30,31,32,33,34] [] E1 rfl fun hw=>?_
   refine qw 2 hw ?_
   refine ql rfl mH HX.out hw ?_
   refine qv rfl (fun u hu=>j0o u B0.out rfl rfl) hw ?_
   refine qw 3 hw ?_
   refine ql rfl mH HX.out hw ?_
   refine qv rfl (fun u hu=>j1m u B1.out rfl rfl) hw ?_
   refine qw 3 hw ?_
   refine qf (o2:=33) rfl hw ?_
   refine ql rfl mH HX.out hw ?_
   refine qv rfl (fun u hu=>j0o u B2.out rfl rfl) hw ?_
   refine qw 20 hw ?_
   refine enP fun u3 EX2=>?_
   have HBE:=hD (EnvX.bel EX2.out)
   go_wp2
   go_ret
   exact⟨by rw[HF.out];first|done|rfl,HBE.out⟩
 have B2:Hid (decide (x.v<1)=false):=decide_eq_false c2
 by_cases c3:1099511627776<x.v
 · have B3:Hid (decide (1099511627776<x.v)=true):=decide_eq_true c3
   have HF:Hid ((!j1c x)=true):=by
    have h:j1c x=false:=decide_eq_false (by omega)
    show _=_
    rw[h]
    rfl
   clear c0 c1 c2 c3
   go_enter func209,ntmps209
   go_upto_region 1 with (fail)
   generalize w.alloc (.cells (coA x) 137)=W at *
   refine rgQ [0,1,2,3,4,5,6,7,8,9,10,11,12,13,14,15,16,17,18,19,20,21,22,23,24,25,26,27,28,29,30,31,32,33,34] [] E1 rfl fun hw=>?_
   refine qw 2 hw ?_
   refine ql rfl mH HX.out hw ?_
   refine qv rfl (fun u hu=>j0o u B0.out rfl rfl) hw ?_
   refine qw 3 hw ?_
   refine ql rfl mH HX.out hw ?_
   refine qv rfl (fun u hu=>j1m u B1.out rfl rfl) hw ?_
   refine qw 3 hw ?_
   refine qf (o2:=33) rfl hw ?_
   refine ql rfl mH HX.out hw ?_
   refine qv rfl (fun u hu=>j0o u B2.out rfl rfl) hw ?_
   refine qw 3 hw ?_
   refine qf (o2:=33) rfl hw ?_
   refine ql rfl mH HX.out hw ?_
   refine qv rfl (fun u hu=>j1m u B3.out rfl rfl) hw ?_
   refine qw 14 hw ?_
   refine enP fun u3 EX2=>?_
   have HBE:=hD (EnvX.bel EX2.out)
   go_wp2
   go_ret
   exact⟨by rw[HF.out];first|done|rfl,HBE.out⟩
 have B3:Hid (decide (1099511627776<x.v)=false):=decide_eq_false c3
 by_cases c4:x.tw<0
 · have B4:Hid (decide (x.tw<0)=true):=decide_eq_true c4
   have HF:Hid ((!j1c x)=true):=by
    have h:j1c x=false:=decide_eq_false (by omega)
    show _=_
    rw[h]
    rfl
   clear c0 c1 c2 c3 c4
   go_enter func209,ntmps209
   go_upto_region 1 with (fail)
   generalize w.alloc (.cells (coA x) 137)=W at *
   refine rgQ [0,1,2,3,4,5,6,7,8,9,10,11,12,13,14,15,16,17,18,19,20,21,22,23,24,25,26,27,28,29,30,31,32,33,34] [] E1 rfl fun hw=>?_
   refine qw 2 hw ?_
   refine ql rfl mH HX.out hw ?_
   refine qv rfl (fun u hu=>j0o u B0.out rfl rfl) hw ?_
   refine qw 3 hw ?_
   refine ql rfl mH HX.out hw ?_
   refine qv rfl (fun u hu=>j1m u B1.out rfl rfl) hw ?_
   refine qw 3 hw ?_
   refine qf (o2:=33) rfl hw ?_
   refine ql rfl mH HX.out hw ?_
   refine qv rfl (fun u hu=>j0o u B2.out rfl rfl) hw ?_
   refine qw 3 hw ?_
   refine qf (o2:=33) rfl hw ?_
   refine ql rfl mH HX.out hw ?_
   refine qv rfl (fun u hu=>j1m u B3.out rfl rfl) hw ?_
   refine qw 3 hw ?_
   refine qf (o2:=34) rfl hw ?_
   refine ql rfl mH HX.out hw ?_
   refine qv rfl (fun u hu=>j0o u B4.out rfl rfl) hw ?_
   refine qw 8 hw ?_
   refine enP fun u3 EX2=>?_
   have HBE:=hD (EnvX.bel EX2.out)
   go_wp2
   go_ret
   exact⟨by rw[HF.out];first|done|rfl,HBE.out⟩
 have B4:Hid (decide (x.tw<0)=false):=decide_eq_false c4
 by_cases c5:255<x.tw
 · have B5:Hid (decide (255<x.tw)=true):=decide_eq_true c5
   have HF:Hid ((!j1c x)=true):=by
    have h:j1c x=false:=decide_eq_false (by omega)
    show _=_
    rw[h]
    rfl
   clear c0 c1 c2 c3 c4 c5
   go_enter func209,ntmps209
   go_upto_region 1 with (fail)
   generalize w.alloc (.cells (coA x) 137)=W at *
   refine rgQ [0,1,2,3,4,5,6,7,8,9,10,11,12,13,14,15,16,17,18,19,20,21,22,23,24,25,26,27,28,29,30,31,32,33,34] [] E1 rfl fun hw=>?_
   refine qw 2 hw ?_
   refine ql rfl mH HX.out hw ?_
   refine qv rfl (fun u hu=>j0o u B0.out rfl rfl) hw ?_
   refine qw 3 hw ?_
   refine ql rfl mH HX.out hw ?_
   refine qv rfl (fun u hu=>j1m u B1.out rfl rfl) hw ?_
   refine qw 3 hw ?_
   refine qf (o2:=33) rfl hw ?_
   refine ql rfl mH HX.out hw ?_
   refine qv rfl (fun u hu=>j0o u B2.out rfl rfl) hw ?_
   refine qw 3 hw ?_
   refine qf (o2:=33) rfl hw ?_
   refine ql rfl mH HX.out hw ?_
   refine qv rfl (fun u hu=>j1m u B3.out rfl rfl) hw ?_
   refine qw 3 hw ?_
   refine qf (o2:=34) rfl hw ?_
   refine ql rfl mH HX.out hw ?_
   refine qv rfl (fun u hu=>j0o u B4.out rfl rfl) hw ?_
   refine qw 3 hw ?_
   refine qf (o2:=34) rfl hw ?_
   refine ql rfl mH HX.out hw ?_
   refine qv rfl (fun u hu=>j1m u B5.out rfl rfl) hw ?_
   refine qw 2 hw ?_
   refine enP fun u3 EX2=>?_
   have HBE:=hD (EnvX.bel EX2.out)
   go_wp2
   go_ret
   exact⟨by rw[HF.out];first|done|rfl,HBE.out⟩
 have B5:Hid (decide (255<x.tw)=false):=decide_eq_false c5
 have HF:Hid ((!j1c x)=false):=by
   have h:j1c x=true:=decide_eq_true (by omega)
   show _=_
   rw[h]
   rfl
 clear c0 c1 c2 c3 c4 c5
 go_enter func209,ntmps209
 go_upto_region 1 with (fail)
 generalize w.alloc (.cells (coA x) 137)=W at *
 refine rgQ [0,1,2,3,4,5,6,7,8,9,10,11,12,13,14,15,16,17,18,19,20,21,22,23,24,25,26,27,28,29,30,31,32,33,34] [] E1 rfl fun hw=>?_
 refine qw 2 hw ?_
 refine ql rfl mH HX.out hw ?_
 refine qv rfl (fun u hu=>j0o u B0.out rfl rfl) hw ?_
 refine qw 3 hw ?_
 refine ql rfl mH HX.out hw ?_
 refine qv rfl (fun u hu=>j1m u B1.out rfl rfl) hw ?_
 refine qw 3 hw ?_
 refine qf (o2:=33) rfl hw ?_
 refine ql rfl mH HX.out hw ?_
 refine qv rfl (fun u hu=>j0o u B2.out rfl rfl) hw ?_
 refine qw 3 hw ?_
 refine qf (o2:=33) rfl hw ?_
 refine ql rfl mH HX.out hw ?_
 refine qv rfl (fun u hu=>j1m u B3.out rfl rfl) hw ?_
 refine qw 3 hw ?_
 refine qf (o2:=34) rfl hw ?_
 refine ql rfl mH HX.out hw ?_
 refine qv rfl (fun u hu=>j0o u B4.out rfl rfl) hw ?_
 refine qw 3 hw ?_
 refine qf (o2:=34) rfl hw ?_
 refine ql rfl mH HX.out hw ?_
 refine qv rfl (fun u hu=>j1m u B5.out rfl rfl) hw ?_
 refine qw 2 hw ?_
 refine enP fun u3 EX2=>?_
 have HBE:=hD (EnvX.bel EX2.out)
 go_wp2
 go_ret
 exact⟨by rw[HF.out];first|done|rfl,HBE.out⟩
def q8H(pf:CoinR→Bool)(p:List CoinR):Int:=match p.findIdx? pf with
  |some k=>k
  |none=> -1
theorem q6X{pf:CoinR→Bool}{p:List CoinR}(h: ∀j,j<p.length→pf (p.getD j j1w)=false):q8H pf p= -1:=by
 have e:p.findIdx? pf=none:=List.findIdx?_eq_none_iff.2 fun c hc=>by
  obtain⟨j,hj,rfl⟩:=List.getElem_of_mem hc
  have:=h j hj
  rw[gD,gE hj]at this
  simpa using this
 unfold q8H
 rw[e]
theorem x0A{pf:CoinR→Bool}{p:List CoinR}{k:Nat}(hk:k<p.length)(h:pf (p.getD k j1w)=true)(hn: ∀j,j<k→pf (p.getD j j1w)=false):q8H pf p=(k:Int):=by
 have e:p.findIdx? pf=some k:=List.findIdx?_eq_some_iff_getElem.2 ⟨hk,by
  rw[gD,gE hk]at h
  exact h,fun j hj=>by
  have:=hn j hj
  rw[gD,gE (show j<p.length by omega)]at this
  simpa using this⟩
 unfold q8H
 rw[e]
theorem x00(pf:CoinR→Bool)(p:List CoinR):decide (0≤q8H pf p)=p.any pf:=by
 unfold q8H
 cases h:p.findIdx? pf with
 |none=>
  have:=List.findIdx?_eq_none_iff.1 h
  symm
  simp only[List.any_eq_false]
  show p.any pf=decide ((0:Int)≤ -1)
  rw[show decide ((0:Int)≤ -1)=false by decide,List.any_eq_false]
  exact fun c hc=>by have:=this c hc;simpa using this
 |some k=>
  obtain⟨hk,h1,_⟩:=List.findIdx?_eq_some_iff_getElem.1 h
  symm
  show p.any pf=decide ((0:Int)≤(k:Int))
  rw[decide_eq_true (by omega:(0:Int)≤(k:Int)),List.any_eq_true]
  exact⟨_,List.getElem_mem hk,h1⟩
theorem q4y(pf:CoinR→Bool)(p:List CoinR)(A:Option Addr)(n c:Nat)(w:World)(hl:p.length=n)(hnc:n≤c)(hcm:c≤maxLen)(hI:okP p)(hA:CoinsIn w w.heap.size A p)
  (hf: ∀u,Below w.heap.size w u→ ∀y,j4I y→Calls Tryz.prog 209 #[coV y] u fun e w'=>e= .returned (.bool (pf y))∧Below u.heap.size u w'):
  Calls Tryz.prog 226 #[.slice A n c, .func (.func 209) #[] #[]] w fun e w'=>e= .returned (.int .i64 (q8H pf p))∧Below w.heap.size w w':=by
 have HL:=hD hl
 have HPP:=hD hI
 have HAA:=hD hA
 have HN63:Hid (n<9223372036854775808):=by show _<_;unfold maxLen at hcm;omega
 have HFN:=hD hf
 have E1:Hid (EnvX w w []):=EnvX.start w
 clear hl hnc hcm hI hA hf
 go_enter func226,ntmps226
 go_upto_region 1 with (fail)
 refine rgQ [0,1,2] [] E1 rfl fun hw=>?_
 refine qo rfl hw ?_
 refine qv rfl (fun u hu=>j0l underlying39 HN63.out u rfl) hw ?_
 refine qo rfl hw ?_
 refine enP fun u3 EX2=>?_
 go_upto_region 2 with (fail)
 go_loopw [8] (fun iv u=> ∃i:Nat,i≤n∧iv= .int .i64 (i:Int)∧Hid ((∀j,j<i→pf (p.getD j j1w)=false)∧EnvX w u [])) (fun iv _=>n- (intOf iv).toNat)
 case atStart=>exact⟨0,by omega,rfl,(fun j hj=>by omega),EX2.out⟩
 case round=>
  obtain⟨i,hi,rfl,hinv⟩:=hrel
  have H1:=hD hinv.out.1
  have EK:=hD hinv.out.2
  clear hinv EX2 E1
  by_cases hlt:i<n
  · have C2:Hid (decide ((i:Int)<(n:Int))=true):=decide_eq_true (by omega)
    have HI:=hD hlt
    have hil:i<p.length:=by rw[HL.out];exact hlt
    have HIL:=hD hil
    obtain⟨ad,rfl,-,hld⟩:=HAA.out.loads HPP.out hil
    have HLD:=hD hld
    have HY:Hid (j4I (p.getD i j1w)):=(x0p HPP.out hil).len
    obtain⟨y,hy⟩: ∃y,p.getD i j1w=y:=⟨_,rfl⟩
    have HYE:=hD hy
    rw[hy]at HLD HY
    obtain⟨b,hb⟩: ∃b,pf y=b:=⟨_,rfl⟩
    have HBV:=hD hb
    have HBF:Hid (Rb w 209 #[coV y] (.bool b)):=fun u hu=>by
     have h:=HFN.out u hu y HY.out
     rwa[hb]at h
    clear hld hil hlt hy hb
    go_upto_region 2 with (fail)
    refine rgQ [0] [] EK rfl fun hw=>?_
    refine qv rfl (fun u hu=>j0o u C2.out rfl rfl) hw ?_
    refine enP fun u33 EX32=>?_
    go_upto_region 3 with (fail)
    refine rgQ [0,1] [] EX32 rfl fun hw=>?_
    refine qw 2 hw ?_
    refine enP fun u36 EX35=>?_
    cases b with
    |true=>
     have HF:Hid (q8H pf p=(i:Int)):=x0A HIL.out (by rw[HYE.out];exact HBV.out) H1.out
     go_upto_region 4 with (fail)
     refine rgP [0,1,2,3,4,5] [] EX35 rfl ?_;intro hw37 hone
     iterate 3 refine qo rfl ⟨_,hw37⟩ ?_
     refine qv rfl (fun u hu=>j0h underlying39 aggCo.size HI.out u rfl rfl) ⟨_,hw37⟩ ?_
     refine qv rfl (fun u hu=>j0a u (HLD.out u (nl hu)).1 rfl) ⟨_,hw37⟩ ?_
     (refine j0I (f:=209) (args:= #[coV y]) (caps:= #[]) (all:= #[coV y]) (v:= .bool true) rfl rfl rfl rfl rfl func209 rfl rfl (fun u hu=>HBF.out u (EnvX.bel hu)) ?_ hw37;intro K hK;go_big_quiet_op;go_big_quiet_on)
     clear hone hw37;refine enP fun u39 EX38=>?_
     go_upto_region 5 with (fail)
     refine rgQ [0,1] [] EX38 rfl fun hw=>?_
     refine qw 2 hw ?_
     refine enP fun u42 EX41=>?_
     have HBE:=hD (EnvX.bel EX41.out)
     go_wp2
     go_ret
     exact⟨by rw[HF.out];first|done|rfl,HBE.out⟩
    | false=>
     have H3:Hid (∀j,j<i+1→pf (p.getD j j1w)=false):=fun j hj=>by
      rcases Nat.lt_or_ge j i with h|h
      · exact H1.out j h
      · rw[show j=i by omega,HYE.out];exact HBV.out
     go_upto_region 4 with (fail)
     refine rgP [0,1,2,3,4,5] [] EX35 rfl ?_;intro hw37 hone
     iterate 3 refine qo rfl ⟨_,hw37⟩ ?_
     refine qv rfl (fun u hu=>j0h underlying39 aggCo.size HI.out u rfl rfl) ⟨_,hw37⟩ ?_
     refine qv rfl (fun u hu=>j0a u (HLD.out u (nl hu)).1 rfl) ⟨_,hw37⟩ ?_
     (refine j0I (f:=209) (args:= #[coV y]) (caps:= #[]) (all:= #[coV y]) (v:= .bool false) rfl rfl rfl rfl rfl func209 rfl rfl (fun u hu=>HBF.out u (EnvX.bel hu)) ?_ hw37;intro K hK;go_big_quiet_op;go_big_quiet_on)
     clear hone hw37;refine enP fun u39 EX38=>?_
     have hii:=HI.out
     have hn:=HN63.out
     go_wp2
     go_roundw
     case rel=>exact⟨i+1,by omega,by go_num,H3.out,EX38.out⟩
     case measure=>simp[intOf];omega
  · obtain rfl:i=n:=by omega
    have C2:Hid (decide ((i:Int)<(i:Int))=false):=decide_eq_false (by omega)
    have HF:Hid (q8H pf p= -1):=q6X (by rw[HL.out];exact H1.out)
    go_upto_region 2 with (fail)
    refine rgQ [0] [] EK rfl fun hw=>?_
    refine qv rfl (fun u hu=>j0o u C2.out rfl rfl) hw ?_
    refine enP fun u203 EX202=>?_
    go_upto_region 7 with (fail)
    refine rgQ [0] [] EX202 rfl fun hw=>?_
    refine qo rfl hw ?_
    refine enP fun u206 EX205=>?_
    have HBE:=hD (EnvX.bel EX205.out)
    go_wp2
    go_ret
    exact⟨by rw[HF.out];first|done|rfl,HBE.out⟩
theorem j9g(p:List CoinR)(A:Option Addr)(n c:Nat)(w:World)(hl:p.length=n)(hnc:n≤c)(hcm:c≤maxLen)(hI:okP p)(hA:CoinsIn w w.heap.size A p):
  Rz 208 #[.slice A n c, .func (.func 209) #[] #[]] w (.bool (p.any fun y=>!j1c y)):=by
 unfold Rz
 have HIX:Hid (Rb w 226 #[.slice A n c, .func (.func 209) #[] #[]] (.int .i64 (q8H (fun y=>!j1c y) p))):=fun u hu=>
  q4y _ p A n c u hl hnc hcm hI (CellsIn.up hA hu) (fun v _ y hy=>q2b y v hy)
 have E1:Hid (EnvX w w []):=EnvX.start w
 obtain⟨b,hb⟩: ∃b,(p.any fun y=>!j1c y)=b:=⟨_,rfl⟩
 have h1:=x00 (fun y=>!j1c y) p
 rw[hb]at h1
 have HG:=hD h1
 have HF:=hD hb
 clear hl hnc hcm hI hA hb h1
 generalize q8H (fun y=>!j1c y) p=k at *
 go_enter func208,ntmps208
 go_upto_region 1 with (fail)
 refine rgQ [0,1,2,3,4] [] E1 rfl fun hw=>?_
 refine qw 2 hw ?_
 refine qc rfl func226 (fun u hu=>HIX.out u (EnvX.bel hu)) hw ?_
 refine qv rfl (fun u hu=>q6y u HG.out rfl rfl) hw ?_
 refine qo rfl hw ?_
 refine enP fun u3 EX2=>?_
 have HBE:=hD (EnvX.bel EX2.out)
 go_wp2
 go_ret
 exact⟨by rw[HF.out];first|done|rfl,HBE.out⟩
theorem j3S(p:List CoinR)(A:Option Addr)(n c:Nat)(w:World)(hl:p.length=n)(hnc:n≤c)(hcm:c≤maxLen)(hI:okP p)(hA:CoinsIn w w.heap.size A p):
  Rz 181 #[.slice A n c] w (.bool (j3h p)):=by
 unfold Rz
 have HN63:Hid (n<9223372036854775808):=by show _<_;unfold maxLen at hcm;omega
 have E1:Hid (EnvX w w []):=EnvX.start w
 have hp:=q4L p
 obtain⟨b1,h1⟩: ∃b1,decide (p.length≤48)=b1:=⟨_,rfl⟩
 obtain⟨b2,h2⟩: ∃b2,decide (upP p)=b2:=⟨_,rfl⟩
 obtain⟨b3,h3⟩: ∃b3,(p.any fun y=>!j1c y)=b3:=⟨_,rfl⟩
 rw[h1,h2,h3]at hp
 have HF:=hD hp
 have C2:Hid (decide ((n:Int)≤48)=b1):=by show _=_;rw[←h1,hl];exact decide_eq_decide.2 ⟨fun h=>by omega,fun h=>by omega⟩
 have HIN:Hid (Rb w 207 #[.slice A n c] (.bool b2)):=fun u hu=>by
  have h:=q0S p A n c u hl hnc hcm hI (CellsIn.up hA hu)
  rwa[h2]at h
 have HCN:Hid (Rb w 208 #[.slice A n c, .func (.func 209) #[] #[]] (.bool b3)):=fun u hu=>by
  have h:=j9g p A n c u hl hnc hcm hI (CellsIn.up hA hu)
  rwa[h3]at h
 clear hl hnc hcm hI hA h1 h2 h3 hp
 cases b1 with
 |false=>
  go_enter func181,ntmps181
  go_upto_region 1 with (fail)
  refine rgQ [0,1,2,3,4,5,6,7,8,9,10,11,12] [] E1 rfl fun hw=>?_
  refine qo rfl hw ?_
  refine qv rfl (fun u hu=>j0l underlying39 HN63.out u rfl) hw ?_
  refine qv rfl (fun u hu=>j4A u C2.out rfl rfl) hw ?_
  refine qw 10 hw ?_
  refine enP fun u3 EX2=>?_
  have HBE:=hD (EnvX.bel EX2.out)
  go_wp2
  go_ret
  exact⟨by rw[HF.out];first|done|rfl,HBE.out⟩
 | true=>
  cases b2 with
  |false=>
   go_enter func181,ntmps181
   go_upto_region 1 with (fail)
   refine rgQ [0,1,2,3,4,5,6,7,8,9,10,11,12] [] E1 rfl fun hw=>?_
   refine qo rfl hw ?_
   refine qv rfl (fun u hu=>j0l underlying39 HN63.out u rfl) hw ?_
   refine qv rfl (fun u hu=>j4A u C2.out rfl rfl) hw ?_
   refine qw 2 hw ?_
   refine qc rfl func207 (fun u hu=>HIN.out u (EnvX.bel hu)) hw ?_
   refine qw 7 hw ?_
   refine enP fun u3 EX2=>?_
   have HBE:=hD (EnvX.bel EX2.out)
   go_wp2
   go_ret
   exact⟨by rw[HF.out];first|done|rfl,HBE.out⟩
  | true=>
   cases b3 with
   |false=>
    go_enter func181,ntmps181
    go_upto_region 1 with (fail)
    refine rgQ [0,1,2,3,4,5,6,7,8,9,10,11,12] [] E1 rfl fun hw=>?_
    refine qo rfl hw ?_
    refine qv rfl (fun u hu=>j0l underlying39 HN63.out u rfl) hw ?_
    refine qv rfl (fun u hu=>j4A u C2.out rfl rfl) hw ?_
    refine qw 2 hw ?_
    refine qc rfl func207 (fun u hu=>HIN.out u (EnvX.bel hu)) hw ?_
    refine qw 3 hw ?_
    refine qc rfl func208 (fun u hu=>HCN.out u (EnvX.bel hu)) hw ?_
    refine qw 3 hw ?_
    refine enP fun u3 EX2=>?_
    have HBE:=hD (EnvX.bel EX2.out)
    go_wp2
    go_ret
    exact⟨by rw[HF.out];first|done|rfl,HBE.out⟩
   |true=>
    go_enter func181,ntmps181
    go_upto_region 1 with (fail)
    refine rgQ [0,1,2,3,4,5,6,7,8,9,10,11,12] [] E1 rfl fun hw=>?_
    refine qo rfl hw ?_
    refine qv rfl (fun u hu=>j0l underlying39 HN63.out u rfl) hw ?_
    refine qv rfl (fun u hu=>j4A u C2.out rfl rfl) hw ?_
    refine qw 2 hw ?_
    refine qc rfl func207 (fun u hu=>HIN.out u (EnvX.bel hu)) hw ?_
    refine qw 3 hw ?_
    refine qc rfl func208 (fun u hu=>HCN.out u (EnvX.bel hu)) hw ?_
    refine qw 3 hw ?_
    refine enP fun u3 EX2=>?_
    have HBE:=hD (EnvX.bel EX2.out)
    go_wp2
    go_ret
    exact⟨by rw[HF.out];first|done|rfl,HBE.out⟩
theorem q9D: ∀w,(isAgg 39).run Tryz.prog w= .ok false w:=fun w=>by simp[isAgg,run_underlying underlying39]
theorem x1c{w0 u:World}{M:j0e}{g n c:Nat}{A:Option Addr}{ty:TypeId}(hu:EnvC w0 M u)(hm:(g,oc #[.slice A n c] ty)∈M):(loadVar 39 ⟨g,0,none⟩).run Tryz.prog u= .ok (.slice A n c) u:=
 j0f q9D u (j0n hu hm rfl)
theorem q2g(p:List CoinR)(A:Option Addr)(n c i:Nat)(x:InR)(gp gx:Nat)(w:World)(hl:p.length=n)(hI:okP p)(hA:CoinsIn w w.heap.size A p)(hx:j3e x)(hi:i<n)(hp:w.heap[gp]?=some (.cells #[.slice A n c] 39 (0,0)))(hg:w.heap[gx]?=some (.cells (inA x) 133 (0,0))):
  Rz 238 #[.int .i64 (i:Int), .pointer (some ⟨gp,0,none⟩), .pointer (some ⟨gx,0,none⟩)] w (.bool (!j0u (j0W (p.getD i j1w)) x)):=by
 unfold Rz
 have HX:=hD hx
 have HI:=hD hi
 have hil:i<p.length:=by rw[hl];exact hi
 obtain⟨ad,rfl,-,hld⟩:=CoinsIn.loads hA hI hil
 have HLD:=hD hld
 have HY:Hid (j4I (p.getD i j1w)):=(x0p hI hil).len
 obtain⟨y,hy⟩: ∃y,p.getD i j1w=y:=⟨_,rfl⟩
 rw[hy]at HLD HY
 rw[hy]
 obtain⟨b,hb⟩: ∃b,j0u (j0W y) x=b:=⟨_,rfl⟩
 have HAH:Hid (∀u,Calls Tryz.prog 225 #[inV (j0W y),inV x] u fun e w'=>e= .returned (.bool b)∧Below u.heap.size u w'):=fun u=>by
  have h:=j8I (j0W y) x u HY.out HX.out
  rwa[hb]at h
 rw[hb]
 have E1:Hid (EnvX w w [(gp,oc #[.slice (some ad) n c] 39),(gx,oc (inA x) 133)]):=⟨Below.refl _ _,fun g o hm=>by
  rcases List.mem_cons.1 hm with h|h
  · cases h;exact hp
  · cases mS.1 h;exact hg⟩
 clear hl hI hA hx hi hp hg hil hld hy hb
 go_enter func238,ntmps238
 go_upto_region 1 with (fail)
 refine rgK [0,1,2,3,4,5,6,7,8] 0 E1 rfl fun hw=>?_
 refine qv rfl (fun u hu=>j0a u (x1c hu mH) rfl) hw ?_
 refine qo rfl hw ?_
 refine qv rfl (fun u hu=>j0h underlying39 aggCo.size HI.out u rfl rfl) hw ?_
 refine qv (v:= .pointer (some ((ad.add (i*35)).add 0))) rfl (fun u hu=>j1Y (k:=0) (off:=0) rfl u rfl) hw ?_
 refine qv (v:=inV (j0W y)) rfl (fun u hu=>j0a u (by have h:=(HLD.out u (nl hu)).2.1;rwa[show ((ad.add (i*35)).add 0)=ad.add (i*35)by unfold Addr.add;rfl]) rfl) hw ?_
 refine ql rfl (mT mH) HX.out hw ?_
 refine qc rfl func225 (fun u hu=>HAH.out u) hw ?_
 refine qw 2 hw ?_
 refine eH fun u3 EX2=>?_
 have HBE:=hD (EnvX.bel EX2.out)
 go_wp2
 go_ret
 exact⟨rfl,HBE.out⟩
theorem q9T{p:List CoinR}{x:InR}(hp:idP p)(hx:j3C x.tx)(hu:upP p){h k:Nat}(hh:h<p.length)(hk:k≤h)(hb:j0u (j0W (p.getD h j1w)) x=true):j0u (j0W (p.getD k j1w)) x=true:=by
 rcases Nat.lt_or_ge k h with g|g
 · exact j31 (hp.get (by omega)) (hp.get hh) hx (j6h hu g hh) hb
 · rw[show k=h by omega];exact hb
theorem x3V{p:List CoinR}{x:InR}(hp:idP p)(hx:j3C x.tx)(hu:upP p){h k:Nat}(hk:h≤k)(hkl:k<p.length)(hb:j0u (j0W (p.getD h j1w)) x=false):j0u (j0W (p.getD k j1w)) x=false:=by
 rcases Nat.lt_or_ge h k with g|g
 · cases hc:j0u (j0W (p.getD k j1w)) x with
   |false=>rfl
   |true=>
    have:=j31 (hp.get (by omega)) (hp.get hkl) hx (j6h hu g hkl) hc
    rw[hb]at this
    cases this
 · rw[show k=h by omega];exact hb
section
variable {a:Act}{dst:Option Tmp}{x y:Operand}{ty:TypeId}{pos:String}{after:Array Edge}{gd:Option (Nat × Bool)}
theorem q5s{m:Nat}(u:World)(hm:m<9223372036854775808)(hx:a.eval x= .int .i64 (m:Int)):
  (execOp a.eval ⟨dst, .convert 3 149 x,ty,pos,after,gd⟩).run Tryz.prog u= .ok (.value (.int .u64 (m:Int))) u:=by
 have hq:IntKind.u64.wrap (m:Int)=(m:Int):=by rw[IntKind.wrap_u64];omega
 unfold execOp
 simp only[hx]
 go_simp
theorem q5i{m:Nat}(u:World)(hm:m<9223372036854775808)(hx:a.eval x= .int .u64 (m:Int)):
  (execOp a.eval ⟨dst, .convert 149 3 x,ty,pos,after,gd⟩).run Tryz.prog u= .ok (.value (.int .i64 (m:Int))) u:=by
 have hq:IntKind.i64.wrap (m:Int)=(m:Int):=by rw[IntKind.wrap_i64];omega
 unfold execOp
 simp only[hx]
 go_simp
theorem q6z{f:Fn}{p q:Value}(u:World)(hx:a.eval x=p)(hy:a.eval y=q):
  (execOp a.eval ⟨dst, .makeFunc f #[] #[x,y],ty,pos,after,gd⟩).run Tryz.prog u= .ok (.value (.func f #[] #[p,q])) u:=by
 unfold execOp
 simp only[List.map_toArray,List.map_cons,List.map_nil,hx,hy,Instr.makeFunc,Sem.run_bind,Sem.run_pure,Result.andThen_ok]
theorem q7Z{f:Fn}{p:Value}(u:World)(hx:a.eval x=p):
  (execOp a.eval ⟨dst, .makeFunc f #[] #[x],ty,pos,after,gd⟩).run Tryz.prog u= .ok (.value (.func f #[] #[p])) u:=by
 unfold execOp
 simp only[List.map_toArray,List.map_cons,List.map_nil,hx,Instr.makeFunc,Sem.run_bind,Sem.run_pure,Result.andThen_ok]
theorem x3c{m h:Nat}(u:World)(hm:m/2=h)(hx:a.eval x= .int .u64 (m:Int))(hy:a.eval y= .int .u64 1):
  (execOp a.eval ⟨dst, .binOp .shr 149 x y 149,ty,pos,after,gd⟩).run Tryz.prog u= .ok (.value (.int .u64 (h:Int))) u:=by
 have hd:(m:Int) /2=(h:Int):=by omega
 have hd1:(m:Int) /2^ (1:Nat)=(h:Int):=by rw[show ((2:Int)^ (1:Nat))=2 from rfl];exact hd
 unfold execOp
 simp only[hx,hy]
 go_simp
end
theorem q2x(p:List CoinR)(A:Option Addr)(n c:Nat)(x:InR)(gp gx:Nat)(w:World)(hl:p.length=n)(hn:n≤1000000)(hI:okP p)(hup:upP p)(hA:CoinsIn w w.heap.size A p)(hx:okIn x)(hp:w.heap[gp]?=some (.cells #[.slice A n c] 39 (0,0)))(hg:w.heap[gx]?=some (.cells (inA x) 133 (0,0))):
  Rz 237 #[.int .i64 (n:Int), .func (.func 238) #[] #[.pointer (some ⟨gp,0,none⟩), .pointer (some ⟨gx,0,none⟩)]] w (.int .i64 (j00 p x:Int)):=by
 unfold Rz
 have HP1:Hid (∀u,Below w.heap.size w u→ ∀i,i<n→Calls Tryz.prog 238 #[.int .i64 (i:Int), .pointer (some ⟨gp,0,none⟩), .pointer (some ⟨gx,0,none⟩)] u fun e w'=>e= .returned (.bool (!j0u (j0W (p.getD i j1w)) x))∧Below u.heap.size u w'):=fun u hu i hi=>
  q2g p A n c i x gp gx u hl hI (CellsIn.up hA hu) hx.len hi ((hu.block gp (Row.lt (t:=39) hp)).trans hp) ((hu.block gx (Row.lt (t:=133) hg)).trans hg)
 have HL:=hD hl
 have HN:Hid (n≤1000000):=hn
 have HDN:Hid (∀h k,h<n→k≤h→j0u (j0W (p.getD h j1w)) x=true→j0u (j0W (p.getD k j1w)) x=true):=fun h k h1 h2 h3=>q9T hI.id hx.1 hup (by rw[hl];exact h1) h2 h3
 have HUP:Hid (∀h k,h≤k→k<n→j0u (j0W (p.getD h j1w)) x=false→j0u (j0W (p.getD k j1w)) x=false):=fun h k h1 h2 h3=>x3V hI.id hx.1 hup h1 (by rw[hl];exact h2) h3
 have E1:Hid (EnvX w w []):=EnvX.start w
 clear hl hn hI hup hA hx hp hg
 go_enter func237,ntmps237
 go_upto_region 2 with (fail)
 go_loopw [5,6] (fun iv jv u=> ∃i j:Nat,i≤j∧j≤n∧iv= .int .i64 (i:Int)∧jv= .int .i64 (j:Int)∧Hid ((∀k,k<i→j0u (j0W (p.getD k j1w)) x=true)∧(∀k,j≤k→k<n→j0u (j0W (p.getD k j1w)) x=false)∧EnvX w u [])) (fun iv jv _=>(intOf jv).toNat- (intOf iv).toNat)
 case atStart=>exact⟨0,n,by omega,by omega,rfl,rfl,(fun k hk=>by omega),(fun k h1 h2=>by omega),E1.out⟩
 case round=>
  obtain⟨i,j,hij,hjn,rfl,rfl,hinv⟩:=hrel
  have H1:=hD hinv.out.1
  have H2:=hD hinv.out.2.1
  have EK:=hD hinv.out.2.2
  clear hinv E1
  by_cases hlt:i<j
  · have C2:Hid (decide ((i:Int)<(j:Int))=true):=decide_eq_true (by omega)
    obtain⟨h,hh⟩: ∃h,(i+j) /2=h:=⟨_,rfl⟩
    have HH:=hD hh
    have HB:Hid (i≤h∧h<j∧j≤n):=⟨by omega,by omega,hjn⟩
    have HAD:Hid (IntKind.i64.wrap ((i:Int)+(j:Int))=((i+j:Nat):Int)):=by show _=_;have:=HN.out;rw[j6R (by omega)];omega
    have HS:Hid (i+j<9223372036854775808):=by show _<_;have:=HN.out;omega
    have HSH:Hid (h<9223372036854775808):=by show _<_;have:=HN.out;omega
    have HPI:Hid (IntKind.i64.wrap ((h:Int)+1)=((h+1:Nat):Int)):=by show _=_;have:=HN.out;rw[j6R (by omega)];omega
    obtain⟨b,hb⟩: ∃b,j0u (j0W (p.getD h j1w)) x=b:=⟨_,rfl⟩
    have HBV:=hD hb
    have HPC:Hid (Rb w 238 #[.int .i64 (h:Int), .pointer (some ⟨gp,0,none⟩), .pointer (some ⟨gx,0,none⟩)] (.bool (!b))):=fun u hu=>by
     have k:=HP1.out u hu h (by omega)
     rwa[hb]at k
    clear hh hb hlt hij hjn
    go_upto_region 2 with (fail)
    refine rgQ [0,1,2] [] EK rfl fun hw=>?_
    refine qw 2 hw ?_
    refine qv rfl (fun u hu=>j0o u C2.out rfl rfl) hw ?_
    refine enP fun u13 EX12=>?_
    go_upto_region 3 with (fail)
    refine rgQ [0,1,2,3,4,5,6] [] EX12 rfl fun hw=>?_
    refine qw 2 hw ?_
    refine qv rfl (fun u hu=>j3H u HAD.out rfl rfl) hw ?_
    refine qv (v:= .int .u64 ((i+j:Nat):Int)) rfl (fun u hu=>q5s u HS.out rfl) hw ?_
    refine qv (v:= .int .u64 (h:Int)) rfl (fun u hu=>x3c u HH.out rfl rfl) hw ?_
    refine qv (v:= .int .i64 (h:Int)) rfl (fun u hu=>q5i u HSH.out rfl) hw ?_
    refine qo rfl hw ?_
    refine enP fun u16 EX15=>?_
    cases b with
    |true=>
     go_upto_region 4 with (fail)
     refine rgP [0,1,2,3] [] EX15 rfl ?_;intro hw17 hone
     iterate 2 refine qo rfl ⟨_,hw17⟩ ?_
     (refine j0I (f:=238) (args:= #[.int .i64 (h:Int)]) (caps:= #[.pointer (some ⟨gp,0,none⟩), .pointer (some ⟨gx,0,none⟩)]) (all:= #[.int .i64 (h:Int), .pointer (some ⟨gp,0,none⟩), .pointer (some ⟨gx,0,none⟩)]) (v:= .bool false) rfl rfl rfl rfl rfl func238 rfl rfl (fun u hu=>HPC.out u (EnvX.bel hu)) ?_ hw17;intro K hK;go_big_quiet_op;go_big_quiet_on)
     refine qo rfl ⟨_,hw17⟩ ?_
     clear hone hw17;refine enP fun u19 EX18=>?_
     have H3:Hid (∀k,k<h+1→j0u (j0W (p.getD k j1w)) x=true):=fun k hk=>HDN.out h k (by have:=HB.out;omega) (by omega) HBV.out
     go_upto_region 5 with (fail)
     refine rgQ [0,1,2] [] EX18 rfl fun hw=>?_
     refine qo rfl hw ?_
     refine qv rfl (fun u hu=>j3H u HPI.out rfl rfl) hw ?_
     refine qo rfl hw ?_
     refine enP fun u22 EX21=>?_
     have hb:=HB.out
     go_wp2
     go_roundw
     case rel=>exact⟨h+1,j,by omega,by omega,rfl,rfl,H3.out,H2.out,EX21.out⟩
     case measure=>simp[intOf];omega
    |false=>
     go_upto_region 4 with (fail)
     refine rgP [0,1,2,3] [] EX15 rfl ?_;intro hw17 hone
     iterate 2 refine qo rfl ⟨_,hw17⟩ ?_
     (refine j0I (f:=238) (args:= #[.int .i64 (h:Int)]) (caps:= #[.pointer (some ⟨gp,0,none⟩), .pointer (some ⟨gx,0,none⟩)]) (all:= #[.int .i64 (h:Int), .pointer (some ⟨gp,0,none⟩), .pointer (some ⟨gx,0,none⟩)]) (v:= .bool true) rfl rfl rfl rfl rfl func238 rfl rfl (fun u hu=>HPC.out u (EnvX.bel hu)) ?_ hw17;intro K hK;go_big_quiet_op;go_big_quiet_on)
     refine qo rfl ⟨_,hw17⟩ ?_
     clear hone hw17;refine enP fun u19 EX18=>?_
     have H3:Hid (∀k,h≤k→k<n→j0u (j0W (p.getD k j1w)) x=false):=fun k h1 h2=>HUP.out h k h1 h2 HBV.out
     go_upto_region 6 with (fail)
     refine rgQ [0,1] [] EX18 rfl fun hw=>?_
     refine qw 2 hw ?_
     refine enP fun u22 EX21=>?_
     have hb:=HB.out
     go_wp2
     go_roundw
     case rel=>exact⟨i,h,by omega,by omega,rfl,rfl,H1.out,H3.out,EX21.out⟩
     case measure=>simp[intOf];omega
  · obtain rfl:i=j:=by omega
    have C2:Hid (decide ((i:Int)<(i:Int))=false):=decide_eq_false (by omega)
    have HF:Hid (j00 p x=i):=q74 (by rw[HL.out];exact hjn) H1.out (by rw[HL.out];exact H2.out)
    go_upto_region 2 with (fail)
    refine rgQ [0,1,2] [] EK rfl fun hw=>?_
    refine qw 2 hw ?_
    refine qv rfl (fun u hu=>j0o u C2.out rfl rfl) hw ?_
    refine enP fun u203 EX202=>?_
    go_upto_region 7 with (fail)
    refine rgQ [0,1] [] EX202 rfl fun hw=>?_
    refine qw 2 hw ?_
    refine enP fun u206 EX205=>?_
    have HBE:=hD (EnvX.bel EX205.out)
    go_wp2
    go_ret
    exact⟨by rw[HF.out];first|done|rfl,HBE.out⟩
theorem j6g(p:List CoinR)(A:Option Addr)(n c:Nat)(x:InR)(w:World)(hl:p.length=n)(hn:n≤1000000)(hI:okP p)(hup:upP p)(hA:CoinsIn w w.heap.size A p)(hx:okIn x):
  Rz 230 #[.slice A n c,inV x] w (.int .i64 (j00 p x:Int)):=by
 unfold Rz
 have HN63:Hid (n<9223372036854775808):=by show _<_;omega
 have HSE:Hid (∀u,EnvX w u [(w.heap.size+1,oc (inA x) 133),(w.heap.size,oc #[.slice A n c] 39)]→Calls Tryz.prog 237 #[.int .i64 (n:Int), .func (.func 238) #[] #[.pointer (some ⟨w.heap.size,0,none⟩), .pointer (some ⟨w.heap.size+1,0,none⟩)]] u fun e w'=>e= .returned (.int .i64 (j00 p x:Int))∧Below u.heap.size u w'):=fun u hu=>
  q2x p A n c x _ _ u hl hn hI hup (CellsIn.up hA hu.bel) hx (hu.box _ _ (mT mH)) (hu.box _ _ mH)
 have E1:Hid (EnvX w ((w.alloc (.cells #[.slice A n c] 39)).alloc (.cells (inA x) 133)) [(w.heap.size+1,oc (inA x) 133),(w.heap.size,oc #[.slice A n c] 39)]):=(EnvX.start w).two _ _
 clear hl hn hI hup hA hx
 generalize j00 p x=k at *
 unfold inV
 go_enter func230,ntmps230
 go_upto_region 1 with (fail)
 generalize (w.alloc (.cells #[.slice A n c] 39)).alloc (.cells (inA x) 133)=W at *
 refine rgQ [0,1,2,3,4] [] E1 rfl fun hw=>?_
 refine qv rfl (fun u hu=>j0a u (x1c hu (mT mH)) rfl) hw ?_
 refine qv rfl (fun u hu=>j0l underlying39 HN63.out u rfl) hw ?_
 refine qv (v:= .func (.func 238) #[] #[.pointer (some ⟨w.heap.size,0,none⟩), .pointer (some ⟨w.heap.size+1,0,none⟩)]) rfl (fun u hu=>q6z u rfl rfl) hw ?_
 refine qc rfl func237 (fun u hu=>HSE.out u hu) hw ?_
 refine qo rfl hw ?_
 refine enP fun u3 EX2=>?_
 have HBE:=hD (EnvX.bel EX2.out)
 go_wp2
 go_ret
 exact⟨rfl,HBE.out⟩
theorem q6Y(p:List CoinR)(A:Option Addr)(n c:Nat)(x:InR)(w:World)(hl:p.length=n)(hn:n≤1000)(hnc:n≤c)(hcm:c≤maxLen)(hI:okP p)(hup:upP p)(hA:CoinsIn w w.heap.size A p)(hx:okIn x):
   Rz 235 #[.slice A n c,inV x] w (.int .i64 (j4s p x)):=by
 unfold Rz
 have hfp:=q2B hI.id hx.1 hup
 have hkn:=j4u p x
 have HL:=hD hl
 have HPP:=hD hI
 have HAA:=hD hA
 have HN63:Hid (n<9223372036854775808):=by show _<_;unfold maxLen at hcm;omega
 have HX:Hid (j3e x):=hx.len
 have HPL:Hid (Rb w 230 #[.slice A n c,inV x] (.int .i64 (j00 p x:Int))):=fun u hu=>j6g p A n c x u hl (by omega) hI hup (CellsIn.up hA hu) hx
 have E1:Hid (EnvX w (w.alloc (.cells (inA x) 133)) [(w.heap.size,oc (inA x) 133)]):=(EnvX.start w).new _
 rw[hl]at hfp hkn
 have HFP:=hD hfp
 obtain⟨k,hk⟩: ∃k,j00 p x=k:=⟨_,rfl⟩
 rw[hk]at HPL HFP hkn
 clear hl hn hnc hcm hI hup hA hx hfp hk
 unfold inV at HPL ⊢
 by_cases hkn2:k=n
 · subst hkn2
   have C3:Hid (decide ((k:Int)=(k:Int))=true):=decide_eq_true rfl
   have HF:Hid (j4s p x= -1):=by show _=_;rw[HFP.out,if_neg (by omega)]
   clear hkn
   go_enter func235,ntmps235
   go_upto_region 1 with (fail)
   generalize w.alloc (.cells (inA x) 133)=W at *
   refine rgQ [0,1,2,3] [] E1 rfl fun hw=>?_
   refine qo rfl hw ?_
   refine ql rfl mH HX.out hw ?_
   refine qc rfl func230 (fun u hu=>HPL.out u (EnvX.bel hu)) hw ?_
   refine qo rfl hw ?_
   refine enP fun u3 EX2=>?_
   go_upto_region 2 with (fail)
   refine rgK [0,1,2,3,4,5,6,7,8,9,10,11,12] 0 EX2 rfl fun hw=>?_
   refine qw 2 hw ?_
   refine qv rfl (fun u hu=>j0l underlying39 HN63.out u rfl) hw ?_
   refine qv rfl (fun u hu=>j1C u C3.out rfl rfl) hw ?_
   refine qw 9 hw ?_
   refine eH fun u6 EX5=>?_
   go_upto_region 3 with (fail)
   refine rgQ [0] [] EX5 rfl fun hw=>?_
   refine qo rfl hw ?_
   refine enP fun u9 EX8=>?_
   have HBE:=hD (EnvX.bel EX8.out)
   go_wp2
   go_ret
   exact⟨by rw[HF.out];first|done|rfl,HBE.out⟩
 · have C3:Hid (decide ((k:Int)=(n:Int))=false):=decide_eq_false (by omega)
   have HK:Hid (k<n):=by show _<_;omega
   have hil:k<p.length:=by rw[HL.out];exact HK.out
   obtain⟨ad,rfl,-,hld⟩:=HAA.out.loads HPP.out hil
   have HLD:=hD hld
   have HY:Hid (j4I (p.getD k j1w)):=(x0p HPP.out hil).len
   obtain⟨y,hy⟩: ∃y,p.getD k j1w=y:=⟨_,rfl⟩
   rw[hy]at HLD HY HFP
   clear hkn hkn2 hil hld hy
   by_cases he:j0W y=x
   · have HEQ:Hid ((!eqI (j0W y) x)=false):=by show (!decide (j0W y=x))=false;rw[decide_eq_true he];rfl
     have HF:Hid (j4s p x=(k:Int)):=by show _=_;rw[HFP.out,if_pos ⟨HK.out,he⟩]
     clear he
     go_enter func235,ntmps235
     go_upto_region 1 with (fail)
     generalize w.alloc (.cells (inA x) 133)=W at *
     refine rgQ [0,1,2,3] [] E1 rfl fun hw=>?_
     refine qo rfl hw ?_
     refine ql rfl mH HX.out hw ?_
     refine qc rfl func230 (fun u hu=>HPL.out u (EnvX.bel hu)) hw ?_
     refine qo rfl hw ?_
     refine enP fun u3 EX2=>?_
     go_upto_region 2 with (fail)
     refine rgK [0,1,2,3,4,5,6,7,8,9,10,11,12] 0 EX2 rfl fun hw=>?_
     refine qw 2 hw ?_
     refine qv rfl (fun u hu=>j0l underlying39 HN63.out u rfl) hw ?_
     refine qv rfl (fun u hu=>j1C u C3.out rfl rfl) hw ?_
     refine qw 3 hw ?_
     refine qv rfl (fun u hu=>j0h underlying39 aggCo.size HK.out u rfl rfl) hw ?_
     refine qv (v:= .pointer (some ((ad.add (k*35)).add 0))) rfl (fun u hu=>j1Y (k:=0) (off:=0) rfl u rfl) hw ?_
     refine qv (v:=inV (j0W y)) rfl (fun u hu=>j0a u (by have h:=(HLD.out u (nl hu)).2.1;rwa[show ((ad.add (k*35)).add 0)=ad.add (k*35)by unfold Addr.add;rfl]) rfl) hw ?_
     refine ql rfl mH HX.out hw ?_
     refine qv rfl (fun u hu=>j5D (show j3e (j0W y)from HY.out) HX.out HEQ.out u rfl rfl) hw ?_
     refine qo rfl hw ?_
     refine eH fun u6 EX5=>?_
     go_upto_region 4 with (fail)
     refine rgQ [0,1] [] EX5 rfl fun hw=>?_
     refine qw 2 hw ?_
     refine enP fun u9 EX8=>?_
     have HBE:=hD (EnvX.bel EX8.out)
     go_wp2
     go_ret
     exact⟨by rw[HF.out];first|done|rfl,HBE.out⟩
   · have HEQ:Hid ((!eqI (j0W y) x)=true):=by show (!decide (j0W y=x))=true;rw[decide_eq_false he];rfl
     have HF:Hid (j4s p x= -1):=by show _=_;rw[HFP.out,if_neg (fun h=>he h.2)]
     clear he
     go_enter func235,ntmps235
     go_upto_region 1 with (fail)
     generalize w.alloc (.cells (inA x) 133)=W at *
     refine rgQ [0,1,2,3] [] E1 rfl fun hw=>?_
     refine qo rfl hw ?_
     refine ql rfl mH HX.out hw ?_
     refine qc rfl func230 (fun u hu=>HPL.out u (EnvX.bel hu)) hw ?_
     refine qo rfl hw ?_
     refine enP fun u3 EX2=>?_
     go_upto_region 2 with (fail)
     refine rgK [0,1,2,3,4,5,6,7,8,9,10,11,12] 0 EX2 rfl fun hw=>?_
     refine qw 2 hw ?_
     refine qv rfl (fun u hu=>j0l underlying39 HN63.out u rfl) hw ?_
     refine qv rfl (fun u hu=>j1C u C3.out rfl rfl) hw ?_
     refine qw 3 hw ?_
     refine qv rfl (fun u hu=>j0h underlying39 aggCo.size HK.out u rfl rfl) hw ?_
     refine qv (v:= .pointer (some ((ad.add (k*35)).add 0))) rfl (fun u hu=>j1Y (k:=0) (off:=0) rfl u rfl) hw ?_
     refine qv (v:=inV (j0W y)) rfl (fun u hu=>j0a u (by have h:=(HLD.out u (nl hu)).2.1;rwa[show ((ad.add (k*35)).add 0)=ad.add (k*35)by unfold Addr.add;rfl]) rfl) hw ?_
     refine ql rfl mH HX.out hw ?_
     refine qv rfl (fun u hu=>j5D (show j3e (j0W y)from HY.out) HX.out HEQ.out u rfl rfl) hw ?_
     refine qo rfl hw ?_
     refine eH fun u6 EX5=>?_
     go_upto_region 3 with (fail)
     refine rgQ [0] [] EX5 rfl fun hw=>?_
     refine qo rfl hw ?_
     refine enP fun u9 EX8=>?_
     have HBE:=hD (EnvX.bel EX8.out)
     go_wp2
     go_ret
     exact⟨by rw[HF.out];first|done|rfl,HBE.out⟩
theorem q0a:(inA j14).size=33:=by decide+kernel
theorem j5R{tx:List Int}(h:tx.length=32):Tryz.prog.built 133 [(0,idv tx)]=some (inA ⟨tx,0⟩):=by
 have hs:(j0d 32 tx).size=32:=j0c _ _ (by omega)
 have hz:=elIn.info
 cases hq:Tryz.prog.info? 133 with
 |none=>rw[hq]at hz;cases hz
 |some it=>
  rw[hq]at hz
  simp only[Option.map_some,Option.some.injEq,Prod.mk.injEq]at hz
  have hp:(Tryz.prog.fieldsOf 133).toList.mapM (fun f=>(Tryz.prog.info? f.type).map fun i=>(f.offset,i.size))=some [(0,32),(32,1)]:=by kernel_rfl
  have hu:Tryz.prog.underlying 133=some (.struct (Tryz.prog.fieldsOf 133)):=by kernel_rfl
  unfold Program.built
  simp only[hq,hu,hz.1,hp]
  obtain⟨r,hr,hl⟩:=j6V (place:=(([(0,32),(32,1)]:List (Nat × Nat)).toArray[·]?)) [(0,idv tx)] 0 (inA j14) ⟨by show some (0,32)=some (0,(j0d 32 tx).size);rw[hs],trivial⟩ (by rw[q0a];simp[j0J,idv,Value.cells,hs])
  refine Eq.trans hr ?_
  congr 1
  apply Array.ext'
  rw[hl]
  have e:j0J [(0,idv tx)]=(j0d 32 tx).toList:=by simp[j0J,idv,Value.cells]
  rw[e,List.take_zero,List.nil_append,Nat.zero_add,j0g h]
  show _=(j0d 32 tx).toList++[.int .i64 0]
  congr 1
theorem q3W(p:List CoinR)(A:Option Addr)(n c:Nat)(id:List Int)(w:World)(hl:p.length=n)(hn:n≤1000)(hnc:n≤c)(hcm:c≤maxLen)(hI:okP p)(hup:upP p)(hA:CoinsIn w w.heap.size A p)(hb: ∀c∈p,j1c c=true)(hid:j3C id):
  Rz 212 #[.slice A n c,idv id] w (.bool (j19 p id)):=by
 unfold Rz
 have hth:=q1S hI.id hid hup (fun x hx=>by have h:=hb x hx;unfold j1c at h;rw[decide_eq_true_eq]at h;exact h.1)
 have hkn:=j4u p ⟨id,0⟩
 have HL:=hD hl
 have HPP:=hD hI
 have HAA:=hD hA
 have HN63:Hid (n<9223372036854775808):=by show _<_;unfold maxLen at hcm;omega
 have HID:Hid (id.length=32):=hid.1
 have HPL:Hid (Rb w 230 #[.slice A n c,inV ⟨id,0⟩] (.int .i64 (j00 p ⟨id,0⟩:Int))):=fun u hu=>j6g p A n c ⟨id,0⟩ u hl (by omega) hI hup (CellsIn.up hA hu) ⟨hid,show I64 0 by unfold I64;omega⟩
 have E1:Hid (EnvX w (w.alloc (.cells (j0d 32 id) 26)) [(w.heap.size,oc (j0d 32 id) 26)]):=(EnvX.start w).new _
 rw[hl]at hth hkn
 have HTH:=hD hth
 obtain⟨k,hk⟩: ∃k,j00 p ⟨id,0⟩=k:=⟨_,rfl⟩
 rw[hk]at HPL HTH hkn
 clear hl hn hnc hcm hI hup hA hb hid hth hk
 unfold idv
 by_cases hkn2:k<n
 case neg=>
  have C3:Hid (decide ((k:Int)<(n:Int))=false):=decide_eq_false (by omega)
  have HF:Hid (j19 p id=false):=by show _=_;rw[HTH.out,decide_eq_false hkn2];rfl
  clear hkn hkn2
  go_enter func212,ntmps212
  go_upto_region 1 with (fail)
  generalize w.alloc (.cells (j0d 32 id) 26)=W at *
  refine rgQ [0,1,2,3,4] [] E1 rfl fun hw=>?_
  refine qo rfl hw ?_
  refine qv rfl (fun u hu=>j0a u (j2q hu mH HID.out) rfl) hw ?_
  refine qv (v:=inV ⟨id,0⟩) rfl (fun u hu=>j0p u (j5R HID.out)) hw ?_
  refine qc rfl func230 (fun u hu=>HPL.out u (EnvX.bel hu)) hw ?_
  refine qo rfl hw ?_
  refine enP fun u3 EX2=>?_
  go_upto_region 2 with (fail)
  refine rgK [0,1,2,3,4,5,6,7,8,9,10,11,12,13,14] 0 EX2 rfl fun hw=>?_
  refine qw 2 hw ?_
  refine qv rfl (fun u hu=>j0l underlying39 HN63.out u rfl) hw ?_
  refine qv rfl (fun u hu=>j0o u C3.out rfl rfl) hw ?_
  refine qw 11 hw ?_
  refine eH fun u6 EX5=>?_
  have HBE:=hD (EnvX.bel EX5.out)
  go_wp2
  go_ret
  exact⟨by rw[HF.out];first|done|rfl,HBE.out⟩
 have C3:Hid (decide ((k:Int)<(n:Int))=true):=decide_eq_true (by omega)
 have HK:Hid (k<n):=hkn2
 have hil:k<p.length:=by rw[HL.out];exact HK.out
 obtain⟨ad,rfl,-,hld⟩:=HAA.out.loads HPP.out hil
 have HLD:=hD hld
 have HY:Hid (j4I (p.getD k j1w)):=(x0p HPP.out hil).len
 obtain⟨y,hy⟩: ∃y,p.getD k j1w=y:=⟨_,rfl⟩
 rw[hy]at HLD HY HTH
 obtain⟨b,hb⟩: ∃b,eqL y.tx id=b:=⟨_,rfl⟩
 have HEQ:=hD hb
 have HF:Hid (j19 p id=b):=by show _=_;rw[HTH.out,decide_eq_true HK.out,←hb];rfl
 clear hkn hkn2 hil hld hy hb
 cases b with
 |false=>
  go_enter func212,ntmps212
  go_upto_region 1 with (fail)
  generalize w.alloc (.cells (j0d 32 id) 26)=W at *
  refine rgQ [0,1,2,3,4] [] E1 rfl fun hw=>?_
  refine qo rfl hw ?_
  refine qv rfl (fun u hu=>j0a u (j2q hu mH HID.out) rfl) hw ?_
  refine qv (v:=inV ⟨id,0⟩) rfl (fun u hu=>j0p u (j5R HID.out)) hw ?_
  refine qc rfl func230 (fun u hu=>HPL.out u (EnvX.bel hu)) hw ?_
  refine qo rfl hw ?_
  refine enP fun u3 EX2=>?_
  go_upto_region 2 with (fail)
  refine rgK [0,1,2,3,4,5,6,7,8,9,10,11,12,13,14] 0 EX2 rfl fun hw=>?_
  refine qw 2 hw ?_
  refine qv rfl (fun u hu=>j0l underlying39 HN63.out u rfl) hw ?_
  refine qv rfl (fun u hu=>j0o u C3.out rfl rfl) hw ?_
  refine qw 3 hw ?_
  refine qv rfl (fun u hu=>j0h underlying39 aggCo.size HK.out u rfl rfl) hw ?_
  refine qv (v:= .pointer (some ((ad.add (k*35)).add 0))) rfl (fun u hu=>j1Y (k:=0) (off:=0) rfl u rfl) hw ?_
  refine qv (v:= .pointer (some (((ad.add (k*35)).add 0).add 0))) rfl (fun u hu=>j6i (k:=0) (off:=0) rfl u rfl) hw ?_
  refine qv (v:=idv y.tx) rfl (fun u hu=>j0a u (by have h:=(HLD.out u (nl hu)).2.2.1;rwa[show (((ad.add (k*35)).add 0).add 0)=ad.add (k*35)by unfold Addr.add;rfl]) rfl) hw ?_
  refine qv rfl (fun u hu=>j0a u (j2q hu mH HID.out) rfl) hw ?_
  refine qv rfl (fun u hu=>j6n HY.out HID.out HEQ.out u rfl rfl) hw ?_
  refine qw 2 hw ?_
  refine eH fun u6 EX5=>?_
  have HBE:=hD (EnvX.bel EX5.out)
  go_wp2
  go_ret
  exact⟨by rw[HF.out];first|done|rfl,HBE.out⟩
 |true=>
  go_enter func212,ntmps212
  go_upto_region 1 with (fail)
  generalize w.alloc (.cells (j0d 32 id) 26)=W at *
  refine rgQ [0,1,2,3,4] [] E1 rfl fun hw=>?_
  refine qo rfl hw ?_
  refine qv rfl (fun u hu=>j0a u (j2q hu mH HID.out) rfl) hw ?_
  refine qv (v:=inV ⟨id,0⟩) rfl (fun u hu=>j0p u (j5R HID.out)) hw ?_
  refine qc rfl func230 (fun u hu=>HPL.out u (EnvX.bel hu)) hw ?_
  refine qo rfl hw ?_
  refine enP fun u3 EX2=>?_
  go_upto_region 2 with (fail)
  refine rgK [0,1,2,3,4,5,6,7,8,9,10,11,12,13,14] 0 EX2 rfl fun hw=>?_
  refine qw 2 hw ?_
  refine qv rfl (fun u hu=>j0l underlying39 HN63.out u rfl) hw ?_
  refine qv rfl (fun u hu=>j0o u C3.out rfl rfl) hw ?_
  refine qw 3 hw ?_
  refine qv rfl (fun u hu=>j0h underlying39 aggCo.size HK.out u rfl rfl) hw ?_
  refine qv (v:= .pointer (some ((ad.add (k*35)).add 0))) rfl (fun u hu=>j1Y (k:=0) (off:=0) rfl u rfl) hw ?_
  refine qv (v:= .pointer (some (((ad.add (k*35)).add 0).add 0))) rfl (fun u hu=>j6i (k:=0) (off:=0) rfl u rfl) hw ?_
  refine qv (v:=idv y.tx) rfl (fun u hu=>j0a u (by have h:=(HLD.out u (nl hu)).2.2.1;rwa[show (((ad.add (k*35)).add 0).add 0)=ad.add (k*35)by unfold Addr.add;rfl]) rfl) hw ?_
  refine qv rfl (fun u hu=>j0a u (j2q hu mH HID.out) rfl) hw ?_
  refine qv rfl (fun u hu=>j6n HY.out HID.out HEQ.out u rfl rfl) hw ?_
  refine qw 2 hw ?_
  refine eH fun u6 EX5=>?_
  have HBE:=hD (EnvX.bel EX5.out)
  go_wp2
  go_ret
  exact⟨by rw[HF.out];first|done|rfl,HBE.out⟩
theorem q0H(A:Option Addr)(n c:Nat)(A':Option Addr)(m c':Nat)(w:World)(hn:n≤1000000)(hm:m≤1000000):
  Rz 214 #[.slice A n c, .slice A' m c'] w (.bool (decide (48<n+m))):=by
 unfold Rz
 have HN63:Hid (n<9223372036854775808):=by show _<_;omega
 have HM63:Hid (m<9223372036854775808):=by show _<_;omega
 have HAD:Hid (IntKind.i64.wrap ((n:Int)+(m:Int))=((n+m:Nat):Int)):=by show _=_;rw[j6R (by omega)];omega
 obtain⟨b,hb⟩: ∃b,decide (48<n+m)=b:=⟨_,rfl⟩
 have HB:Hid (decide ((48:Int)<((n+m:Nat):Int))=b):=by show _=_;rw[←hb];exact decide_eq_decide.2 ⟨fun h=>by omega,fun h=>by omega⟩
 have HF:=hD hb
 have E1:Hid (EnvX w w []):=EnvX.start w
 clear hn hm hb
 go_enter func214,ntmps214
 go_upto_region 1 with (fail)
 refine rgQ [0,1,2,3,4,5,6] [] E1 rfl fun hw=>?_
 refine qo rfl hw ?_
 refine qv rfl (fun u hu=>j0l underlying39 HN63.out u rfl) hw ?_
 refine qo rfl hw ?_
 refine qv rfl (fun u hu=>j0l underlying75 HM63.out u rfl) hw ?_
 refine qv rfl (fun u hu=>j3H u HAD.out rfl rfl) hw ?_
 refine qv rfl (fun u hu=>j1m u HB.out rfl rfl) hw ?_
 refine qo rfl hw ?_
 refine enP fun u3 EX2=>?_
 have HBE:=hD (EnvX.bel EX2.out)
 go_wp2
 go_ret
 exact⟨by rw[HF.out];first|done|rfl,HBE.out⟩
section
variable {st e:TypeId}{z bytes:Nat}{zero:Value}
theorem q01(T:ElemT st e z bytes zero)(A:Option Addr)(n c l h m:Nat)(w:World)(h1:l≤h)(h2:h≤m)(h3:m≤c):
  (Instr.sliceAt st (.slice A n c) (some (.int .i64 (l:Int))) (some (.int .i64 (h:Int))) (some (.int .i64 (m:Int)))).run Tryz.prog w= .ok (.slice (j5d z A l m) (h- l) (m- l)) w:=by
 have ht':Tryz.prog.underlying st=some (.slice (Tryz.prog.elem st)):=by rw[T.elem];exact T.und
 rw[run_sliceAt_slice w _ _ _ _ _ ht',run_slice_lhm w st _ _ _ ht' .i64 .i64 .i64 _ _ _ (by omega) (by omega) (by omega) (by omega),T.elem,T.sizeOf]
 simp[Result.andThen,sliced,j5d]
variable {a:Act}{dst:Option Tmp}{x y l h q:Operand}{ty:TypeId}{pos:String}{after:Array Edge}{gd:Option (Nat × Bool)}
theorem q5g(T:ElemT st e z bytes zero){A:Option Addr}{n c i j m:Nat}(u:World)(h1:i≤j)(h2:j≤m)(h3:m≤c)(hx:a.eval x= .slice A n c)(hl:a.eval l= .int .i64 (i:Int))(hh:a.eval h= .int .i64 (j:Int))(hq:a.eval q= .int .i64 (m:Int)):
  (execOp a.eval ⟨dst, .slice st x (some l) (some h) (some q),ty,pos,after,gd⟩).run Tryz.prog u= .ok (.value (.slice (j5d z A i m) (j- i) (m- i))) u:=by
 unfold execOp
 simp only[hx,hl,hh,hq,Option.map_some,Option.map_none,Sem.run_bind,Sem.run_pure,Result.andThen_ok,q01 T A n c i j m u h1 h2 h3]
theorem q6c(T:ElemT st e z bytes zero){A B:Option Addr}{n c j m:Nat}(u:World)(h2:j≤n)(he:j5d z A j c=B)(hm:n- j=m)(hx:a.eval x= .slice A n c)(hh:a.eval l= .int .i64 (j:Int)):
  (execOp a.eval ⟨dst, .slice st x (some l) none none,ty,pos,after,gd⟩).run Tryz.prog u= .ok (.value (.slice B m (c- j))) u:=by
 rw[←he,←hm]
 exact j60 T u h2 hx hh
theorem q4r(T:ElemT st e z bytes zero){A B:Option Addr}{n c i j len:Nat}(u:World)(h1:i≤j)(h2:j≤c)(hlen:j- i=len)(he:j5d z A i c=B)(hx:a.eval x= .slice A n c)(hl:a.eval l= .int .i64 (i:Int))(hh:a.eval h= .int .i64 (j:Int)):
  (execOp a.eval ⟨dst, .slice st x (some l) (some h) none,ty,pos,after,gd⟩).run Tryz.prog u= .ok (.value (.slice B len (c- i))) u:=by
 rw[←he]
 exact q8d T u h1 h2 hlen hx hl hh
def q9d(e:TypeId)(z g q cap:Nat)(xs:List Value)(M0 M':j0e):Prop:= ∃cur,M'=(g,oc cur e)::M0∧cur.size=cap*z∧cur.toList.take (q*z)=xs
theorem q80(T:ElemT st e z bytes zero){w0 u:World}{M:j0e}(M0:j0e){g k m r cap c:Nat}{ad:Addr}{cur:Array Value}{xs ys:List Value}
  (hu:EnvX w0 u M) (hg:w0.heap.size≤g) (hm:(g,oc cur e)∈M) (hM0: ∀y∈M0,y∈M∧y.1≠g) (hr:k+m=r) (hroom:r≤cap) (hsz:cur.size=cap*z) (hxs:cur.toList.take (k*z)=xs) (hy:ys.length=m*z) (h1: ∀v∈ys,v.oneCell'=true) (hc:j53 u ad ys) (hyv:a.eval y= .slice (some ⟨g,0,none⟩) k cap) (hx:a.eval x= .slice (some ad) m c):
  ∃v' u' M',(execOp a.eval ⟨dst, .call {callee:= .builtin .append,args:= #[y,x],argTypes:= #[st,st]},st,pos,after,gd⟩).run Tryz.prog u= .ok (.value v') u'∧EnvX w0 u' M'∧(v'= .slice (some ⟨g,0,none⟩) r cap∧q9d e z g r cap (xs++ys) M0 M'):=by
 subst hr hxs
 cases hq:Tryz.prog.info? e with
 |none=>have:=T.info;rw[hq]at this;cases this
 |some i=>
  have hi:=T.info
  rw[hq]at hi
  simp only[Option.map_some,Option.some.injEq,Prod.mk.injEq]at hi
  obtain⟨k1,k2,k3⟩:=hi
  have hle:k*z+m*z≤cap*z:=by rw[←Nat.add_mul];exact Nat.mul_le_mul_right _ hroom
  have hrun: ∀ty,(Builtin.append_ #[st,st] ty #[.slice (some ⟨g,0,none⟩) k cap, .slice (some ad) m c]).run Tryz.prog u= .ok (.slice (some ⟨g,0,none⟩) (k+m) cap) (u.setRow g (cur.toList.take (k*z)++ys++cur.toList.drop (k*z+ys.length)).toArray):=fun ty=>by
    have h:=run_append_room (P:=Tryz.prog) (w:=u) st ty e i T.und hq g k cap cur (hu.box _ _ hm) ad m c ys (by rw[k2];exact hy) hc h1 hroom (by rw[k2,hsz,hy];exact hle)
    rw[k2]at h
    exact h
  have hlt:(cur.toList.take (k*z)).length=k*z:=by rw[List.length_take,Array.length_toList,hsz];omega
  refine⟨.slice (some ⟨g,0,none⟩) (k+m) cap,u.setRow g (cur.toList.take (k*z)++ys++cur.toList.drop (k*z+ys.length)).toArray,(g,oc (cur.toList.take (k*z)++ys++cur.toList.drop (k*z+ys.length)).toArray e)::M0,?_,hu.put (cs:=(cur.toList.take (k*z)++ys++cur.toList.drop (k*z+ys.length)).toArray) hg hm (fun x hx=>?_),rfl,_,rfl,?_,?_⟩
  · unfold execOp
    simp only[resolve,invoke,builtin,Sem.run_bind,Sem.run_pure,Result.andThen_ok,List.map_toArray,List.map_cons,List.map_nil,hyv,hx,hrun]
  · rcases List.mem_cons.1 hx with h|h
    · exact .inl h
    · exact .inr (hM0 x h)
  · rw[List.size_toArray,lA,lA,List.length_drop,hlt,hy,Array.length_toList,hsz]
    omega
  · rw[show (k+m)*z=(cur.toList.take (k*z)++ys).length by rw[lA,hlt,hy,Nat.add_mul]]
    exact List.take_left' rfl
theorem q4k(T:ElemT st e z bytes zero){w0 u:World}{M:j0e}(M0:j0e){g o n q cap c:Nat}{cur:Array Value}{xs:List Value}
   (hz: ∀v∈zero.cells.toList,v.oneCell'=true) (hu:EnvX w0 u M) (hg:w0.heap.size≤g) (hm:(g,oc cur e)∈M) (hM0: ∀y∈M0,y∈M∧y.1≠g) (hn:0<n) (ho:q*z=o) (hfit:o+n*z≤cap*z) (hsz:cur.size=cap*z) (hxs:cur.toList.take (q*z)=xs) (hx:a.eval x= .slice (some ⟨g,o,none⟩) n c):
   ∃v' u' M',(execOp a.eval ⟨dst, .call {callee:= .builtin .clear,args:= #[x],argTypes:= #[st]},ty,pos,after,gd⟩).run Tryz.prog u= .ok (.value v') u'∧EnvX w0 u' M'∧(v'= .tuple #[]∧q9d e z g q cap xs M0 M'):=by
 subst ho hxs
 obtain⟨n,rfl⟩: ∃k,n=k+1:=⟨n- 1,by omega⟩
 have hzv:(zeroValue e).run Tryz.prog u= .ok zero u:=by
   cases hq:Tryz.prog.info? e with
   |none=>have:=T.info;rw[hq]at this;cases this
   | some i=>
     have hi:=T.info
     rw[hq]at hi
     simp only[Option.map_some,Option.some.injEq,Prod.mk.injEq]at hi
     simp[zeroValue,typeInfo,hq,hi.1]
 obtain⟨zs,hzs⟩: ∃zs,(Builtin.zeroCells zero.cells (n+1)).toList=zs:=⟨_,rfl⟩
 have hzl:zs.length=(n+1)*z:=by rw[←hzs];simp[Builtin.zeroCells,T.zs]
 have hz1: ∀v∈zs,v.oneCell'=true:=fun v hv=>by
   rw[←hzs]at hv
   simp only[Builtin.zeroCells,Array.toList_map,List.mem_map]at hv
   obtain⟨i,_,rfl⟩:=hv
   have hp:=T.pos
   have hlt:i % zero.cells.size<zero.cells.size:=Nat.mod_lt _ (by rw[T.zs];exact hp)
   rw[getElem!_pos zero.cells _ hlt]
   exact hz _ (by simp)
 have hst:=run_storeCells_at Tryz.prog g (q*z) e zs 0 cur u (hu.box _ _ hm) (by rw[hzl,hsz];omega) hz1
 rw[Nat.add_zero]at hst
 have hrun: ∀ty,(Builtin.clear_ #[st] ty #[.slice (some ⟨g,q*z,none⟩) (n+1) c]).run Tryz.prog u= .ok (.tuple #[]) (u.setRow g (cur.toList.take (q*z)++zs++cur.toList.drop (q*z+zs.length)).toArray):=fun ty=>by
   simp[Builtin.clear_,run_underlying T.und,hzv,hzs,hst]
 have hlt:(cur.toList.take (q*z)).length=q*z:=by rw[List.length_take,Array.length_toList,hsz];omega
 refine⟨.tuple #[],u.setRow g (cur.toList.take (q*z)++zs++cur.toList.drop (q*z+zs.length)).toArray,(g,oc (cur.toList.take (q*z)++zs++cur.toList.drop (q*z+zs.length)).toArray e)::M0,?_,hu.put (cs:=(cur.toList.take (q*z)++zs++cur.toList.drop (q*z+zs.length)).toArray) hg hm (fun x hx=>?_),rfl,_,rfl,?_,?_⟩
 · unfold execOp
   simp only[resolve,invoke,builtin,Sem.run_bind,Sem.run_pure,Result.andThen_ok,List.map_toArray,List.map_cons,List.map_nil,hx,hrun]
 · rcases List.mem_cons.1 hx with h|h
   · exact .inl h
   · exact .inr (hM0 x h)
 · rw[List.size_toArray,lA,lA,List.length_drop,hlt,hzl,Array.length_toList,hsz]
   omega
 · rw[aA]
   exact List.take_left' hlt
end
theorem x2D{w u:World}{ad:Addr}{ys:List Value}(h:CellsIn w w.heap.size (some ad) ys)(hb:Below w.heap.size w u):j53 u ad ys:=by
 intro j v hv
 have hp:0<ys.length:=by
  rcases Nat.eq_zero_or_pos ys.length with h0|h0
  · rw[List.eq_nil_of_length_eq_zero h0]at hv;simp at hv
  · exact h0
 obtain⟨ad',e,hlt,hc⟩:=h hp
 obtain rfl:=Option.some.inj e
 rw[hb.cell (by rw[j0N];exact hlt)]
 exact hc j v hv
theorem j8V(l:List OutR)(A:Option Addr)(n c:Nat)(w:World)(hl:l.length=n)(hn:n≤1000)(hA:OutsIn w w.heap.size A l)(hm: ∀o∈l,j3E o=true):
  Rz 213 #[.slice A n c] w (.int .i64 (j3B l)):=by
 unfold Rz
 have HL:=hD hl
 have HN:Hid (n≤1000):=hn
 have HN63:Hid (n<9223372036854775808):=by show _<_;omega
 have HAA:=hD hA
 have HMO:=hD hm
 have E1:Hid (EnvX w w []):=EnvX.start w
 clear hl hn hA hm
 go_enter func213,ntmps213
 go_upto_region 1 with (fail)
 refine rgQ [0] [] E1 rfl fun hw=>?_
 refine qo rfl hw ?_
 refine enP fun u3 EX2=>?_
 go_upto_region 2 with (fail)
 refine rgQ [0,1,2] [] EX2 rfl fun hw=>?_
 refine qo rfl hw ?_
 refine qv rfl (fun u hu=>j0l underlying75 HN63.out u rfl) hw ?_
 refine qo rfl hw ?_
 refine enP fun u6 EX5=>?_
 have EJ:=hD EX5.out
 clear EX5 E1
 go_upto_region 3 with (fail)
 go_loopw [3,8] (fun sv iv u=> ∃i:Nat,i≤n∧iv= .int .i64 (i:Int)∧sv= .int .i64 (j3B (l.take i))∧Hid (EnvX w u [])) (fun _ iv _=>n- (intOf iv).toNat)
 case atStart=>exact⟨0,by omega,rfl,rfl,EJ.out⟩
 case round=>
  obtain⟨i,hi,rfl,rfl,hinv⟩:=hrel
  have EK:=hD hinv.out
  clear hinv EJ
  by_cases hlt:i<n
  · have C4:Hid (decide ((i:Int)<(n:Int))=true):=decide_eq_true (by omega)
    have HI:=hD hlt
    have hil:i<l.length:=by rw[HL.out];exact hlt
    obtain⟨ad,rfl,-,hld⟩:=HAA.out.loads hil
    have HLD:=hD hld
    have hst:=q2D j1d hil
    have hbs:=j4v (l:=l.take i) (fun o ho=>HMO.out o (List.mem_of_mem_take ho))
    rw[List.length_take,Nat.min_eq_left (by omega)]at hbs
    have hby:=j8E (HMO.out (l.getD i j1d) (by rw[gD,gE hil];exact List.getElem_mem hil))
    obtain⟨y,hy⟩: ∃y,l.getD i j1d=y:=⟨_,rfl⟩
    rw[hy]at HLD hst hby
    have hn3:=HN.out
    have HADD:Hid (IntKind.i64.wrap (j3B (l.take i)+y.v)=j3B (l.take (i+1))):=by show _=_;rw[hst,j6R (by omega)]
    clear hld hil hlt hy hst hbs hby hn3
    generalize j3B (l.take i)=s0 at *
    obtain⟨s1,hs1⟩: ∃s1,j3B (l.take (i+1))=s1:=⟨_,rfl⟩
    rw[hs1]at HADD
    have HS1:=hD hs1
    clear hs1
    go_upto_region 3 with (fail)
    refine rgQ [0] [] EK rfl fun hw=>?_
    refine qv rfl (fun u hu=>j0o u C4.out rfl rfl) hw ?_
    refine enP fun u103 EX102=>?_
    go_upto_region 4 with (fail)
    refine rgQ [0,1] [2,3] EX102 rfl fun hw=>?_
    refine qv rfl (fun u hu=>j0h underlying75 aggOut.size HI.out u rfl rfl) hw ?_
    refine qv rfl (fun u hu=>j0a u (HLD.out u (nl hu)).1 rfl) hw ?_
    refine j0b<|qn rfl (j9d _) fun gc HG6 he105=>?_
    change j1E _ _ _ _ _ _ [(gc,oc (j4r j1d) 135)]
    refine(sh rfl HG6 (j9a _ (j24 _)) ((j24 _).trans (j24 _).symm) (j6W _) ?_)
    refine fun _=>enL fun u108 EX107=>?_
    go_upto_region 5 with (fail)
    refine rgQ [0,1,2,3,4] [] EX107 rfl fun hw=>?_
    refine qw 2 hw ?_
    refine ql rfl mH trivial hw ?_
    refine qv rfl (fun u hu=>j3H u HADD.out rfl rfl) hw ?_
    refine qo rfl hw ?_
    refine enP fun u111 EX110=>?_
    have hii:=HI.out
    have hn:=HN63.out
    go_wp2
    go_roundw
    case rel=>exact⟨i+1,by omega,by go_num,by rw[HS1.out],EX110.out.sub (fun _ h=>by cases h)⟩
    case measure=>simp[intOf];omega
  · obtain rfl:i=n:=by omega
    have C4:Hid (decide ((i:Int)<(i:Int))=false):=decide_eq_false (by omega)
    have HT:Hid (l.take i=l):=tL (by rw[HL.out];exact Nat.le_refl _)
    rw[HT.out]
    go_upto_region 3 with (fail)
    refine rgQ [0] [] EK rfl fun hw=>?_
    refine qv rfl (fun u hu=>j0o u C4.out rfl rfl) hw ?_
    refine enP fun u203 EX202=>?_
    go_upto_region 7 with (fail)
    refine rgQ [0,1] [] EX202 rfl fun hw=>?_
    refine qw 2 hw ?_
    refine enP fun u206 EX205=>?_
    have HBE:=hD (EnvX.bel EX205.out)
    go_wp2
    go_ret
    exact⟨rfl,HBE.out⟩
section
variable {a:Act}{dst:Option Tmp}{ty:TypeId}{pos:String}{after:Array Edge}{gd:Option (Nat × Bool)}
theorem q8P(u:World):FAt Tryz.prog ⟨dst, .buildSlice 39 0 #[],ty,pos,after,gd⟩ a (fun v N=> ∃g,v= .slice (some ⟨g,0,none⟩) 0 0∧N=[(g,oc #[] 137)]) u:=by
 have h:(execOp a.eval ⟨dst, .buildSlice 39 0 #[],ty,pos,after,gd⟩).run Tryz.prog u= .ok (.value (.slice (some ⟨u.heap.size,0,none⟩) 0 0)) (u.alloc (.cells #[] 137)):=by
  unfold execOp
  go_simp
 unfold FAt
 rw[h]
 refine⟨(Below.refl _ _).alloc (Nat.le_refl _) _,_,⟨_,rfl,rfl⟩,fun y hy=>?_⟩
 cases mS.1 hy
 exact⟨Nat.le_refl _,heap_alloc_new u _⟩
end
theorem j3n(p:List CoinR)(A:Option Addr)(n c:Nat)(w:World)(hl:p.length=n)(hn:n≤1000000)(hI:okP p)(hA:CoinsIn w w.heap.size A p):
  Calls Tryz.prog 131 #[.slice A n c] w fun e w'=>(∃v,e= .returned v∧w'.ownsRow w.heap.size 137 35 v n (p.map coC).flatten)∧Below w.heap.size w w':=by
 have HPL:Hid ((p.map coC).flatten.length=n*35):=by show _=_;rw[j3Y hI.lens,hl]
 have HNB:Hid (n≤1000000):=hn
 have E1:Hid (EnvX w w []):=EnvX.start w
 have q22: ∀(w:World)(a:Option Addr)(n c n' c':Nat),(binOp .eql 39 (.slice a n c) (.slice none n' c')).run Tryz.prog w= .ok (.bool a.isNone) w:=fun w a n c n' c'=>Lib.run_eql_slice_nil w _ _ a n c n' c' underlying39
 cases A with
 | none=>
  obtain rfl:p=[]:=by
   refine List.eq_nil_of_length_eq_zero (Nat.eq_zero_of_not_pos fun hp=>?_)
   obtain⟨ad,e,_⟩:=CoinsIn.loads hA hI (k:=0) hp
   cases e
  subst hl
  clear hI hA HPL
  go_enter func131,ntmps131
  go_wp2
  go_ret
  exact⟨⟨_,rfl,World.ownsRow_nil _ _ _ _⟩,Below.refl _ _⟩
 |some ad=>
  have HA:Hid (CellsIn w w.heap.size (some ad) (p.map coC).flatten):=hA
  clear hI hA hl
  go_enter func131,ntmps131
  go_upto_region 3 with (fail)
  refine j07 (w0:=w) [0,1,2,3] [] rfl E1.out ?_
  refine(j0k (R:=fun v N=> ∃g,v= .slice (some ⟨g,0,none⟩) 0 0∧N=[(g,oc #[] 137)]) (M0:=[]) rfl rfl (fun _ h=>h) (fun u hu=>q8P u) ?_)
  rintro _ _ ⟨g0,rfl,rfl⟩ hf he1;intro K' hK';go_big_quiet_op;go_big_quiet_on
  have HG0:=hD (hf _ (mS.2 rfl))
  clear hf
  refine phE [1] [2,3] he1 fun hw=>?_
  refine qo rfl hw ?_
  refine j0b<|(j03 (gd:=none) (R:=j1N w 137 35 (0+n) ([]++(p.map coC).flatten) []) rfl rfl rfl rfl (fun u hu=>j1H elCo (n:=0) (m:=n) (xs:=[]) [] hu rfl HPL.out (j7g p) (.inl ⟨g0,0,#[],rfl,rfl,Nat.le_refl _,Nat.zero_le _,rfl,rfl⟩) (mA ⟨⟨mH,HG0.out.1⟩,fun _ h=>by cases h⟩) (x2D HA.out (EnvX.bel hu)) (fun _ h=>by cases h) (by have:=HNB.out;omega) rfl rfl) ?_)
  rintro x1 M' ⟨N2,rfl,hF2,hn2⟩ he3;intro K' hK';go_big_quiet_op;go_big_quiet_on
  have HF2:=hD (And.intro hF2 hn2)
  clear hF2 hn2
  refine phE [3] [] he3 fun hw=>?_
  refine qo rfl hw ?_
  refine enP fun u6 EX5=>?_
  go_wp2
  go_ret
  refine⟨⟨_,rfl,?_⟩,EnvX.bel EX5.out⟩
  have h:=HF2.out.1
  rw[List.nil_append,Nat.zero_add]at h
  exact h.own HPL.out (fun y hy=>⟨(HF2.out.2 y hy).1,EnvX.box EX5.out _ _ (mL hy)⟩)
theorem q15(l:List CoinR)(q k g cap:Nat)(cur:Array Value)(w0 w:World)(M0:j0e)(hl:l.length=q+1)(hk:k≤q)(hn:q≤1000000)(hI:okP l)(hg:w0.heap.size≤g)(hE:EnvX w0 w ((g,oc cur 137)::M0))(hM0: ∀y∈M0,y.1≠g)(hc:q+1≤cap)(hcm:cap≤maxLen)(hsz:cur.size=cap*35)(hxs:cur.toList.take ((q+1)*35)=(l.map coC).flatten):
  Calls Tryz.prog 236 #[.slice (some ⟨g,0,none⟩) (q+1) cap, .int .i64 (k:Int), .int .i64 ((k+1:Nat):Int)] w fun e w''=> ∃x M',e= .returned x∧EnvX w0 w'' M'∧j1N w0 137 35 q ((l.take k++l.drop (k+1)).map coC).flatten M0 x M':=by
 have HN63:Hid (q+1<9223372036854775808):=by show _<_;omega
 have HQ63:Hid (q<9223372036854775808):=by show _<_;omega
 have HG:=hD hg
 have E1:=hD hE
 have HM0:Hid (∀y∈M0,y.1≠g):=hM0
 have HC:=hD hc
 have HCM:=hD hcm
 have HSZ:=hD hsz
 have HK:=hD hk
 have HKN:Hid (decide ((k:Int)=((k+1:Nat):Int))=false):=decide_eq_false (by omega)
 have HXT:Hid (cur.toList.take (k*35)=((l.take k).map coC).flatten):=by
  show _=_
  have h1:=(j8t hI.lens).flat_take k
  rw[←List.map_take]at h1
  rw[h1,←hxs,List.take_take,Nat.min_eq_left (by omega)]
 have hlen:((l.drop (k+1)).map coC).flatten.length=(q- k)*35:=by rw[j3Y (fun c hc=>hI.lens c (List.mem_of_mem_drop hc)),List.length_drop,hl];omega
 have HYL:Hid (((l.drop (k+1)).map coC).flatten.length=(q+1- (k+1))*35):=by show _=_;rw[hlen];congr 1;omega
 have HRR:Hid (k+(q+1- (k+1))=q):=by show _=_;omega
 obtain⟨ad,had,hsrc⟩: ∃ad,j5d 35 (some ⟨g,0,none⟩) (k+1) cap=some ad∧ ∀u,EnvC w0 ((g,oc cur 137)::M0) u→j53 u ad ((l.drop (k+1)).map coC).flatten:=by
  unfold j5d
  by_cases hcc:cap=k+1
  · rw[if_pos hcc]
    refine⟨_,rfl,fun u _ j v hv=>?_⟩
    have h0:((l.drop (k+1)).map coC).flatten=[]:=List.eq_nil_of_length_eq_zero (by rw[hlen];omega)
    rw[h0]at hv
    simp at hv
  · rw[if_neg hcc]
    refine⟨_,rfl,fun u hu=>?_⟩
    show j53 u ((⟨g,0,none⟩:Addr).add ((k+1)*35)) _
    rw[Addr.add_mid]
    refine j1p hu mH ?_
    rw[hlen,Nat.zero_add]
    have h1:=(j8t hI.lens).flat_drop (k+1)
    rw[←List.map_drop,←hxs,List.drop_take]at h1
    rw[h1]
    congr 1
    omega
 have HAD:=hD had
 have HSRC:=hD hsrc
 have HAQ:Hid (j5d 35 (some ⟨g,0,none⟩) q cap=some ⟨g,q*35,none⟩):=by
  show _=_
  unfold j5d
  rw[if_neg (by omega)]
  simp only[Option.map_some,Addr.add_mid,Nat.zero_add]
 have hres:((l.take k++l.drop (k+1)).map coC).flatten=((l.take k).map coC).flatten++((l.drop (k+1)).map coC).flatten:=by rw[List.map_append,List.flatten_append]
 rw[hres]
 generalize ((l.take k).map coC).flatten=xs at *
 have HON:=hD (j7g (l.drop (k+1)))
 generalize ((l.drop (k+1)).map coC).flatten=ys at *
 clear hl hk hn hI hg hE hM0 hc hcm hsz hxs hlen had hsrc hres
 go_enter func236,ntmps236
 go_upto_region 1 with (fail)
 refine rgQ [0,1,2,3,4,5] [] E1 rfl fun hw=>?_
 refine qw 4 hw ?_
 refine qv rfl (fun u hu=>j0l underlying39 HN63.out u rfl) hw ?_
 refine qv (v:= .slice (j5d 35 (some ⟨g,0,none⟩) k (q+1)) (k+1- k) (q+1- k)) rfl (fun u hu=>q5g elCo u (Nat.le_succ _) (Nat.succ_le_succ HK.out) HC.out rfl rfl rfl rfl) hw ?_
 refine enP fun u3 EX2=>?_
 go_upto_region 2 with (fail)
 refine rgQ [0,1,2] [] EX2 rfl fun hw=>?_
 refine qw 2 hw ?_
 refine qv rfl (fun u hu=>j1C u HKN.out rfl rfl) hw ?_
 refine enP fun u6 EX5=>?_
 go_upto_region 4 with (fail)
 refine rgQ [0,1,2] [] EX5 rfl fun hw=>?_
 refine qo rfl hw ?_
 refine qv rfl (fun u hu=>j0l underlying39 HN63.out u rfl) hw ?_
 refine qo rfl hw ?_
 refine enP fun u9 EX8=>?_
 go_upto_region 5 with (fail)
 refine rgK [0,1,2,3,4,5] 2 EX8 rfl fun hw=>?_
 refine qw 2 hw ?_
 refine qv (v:= .slice (some ⟨g,0,none⟩) k cap) rfl (fun u hu=>j43 elCo u (by have h1:=HC.out;have h2:=HK.out;omega) rfl rfl) hw ?_
 refine qw 2 hw ?_
 refine qv (v:= .slice (some ad) (q+1- (k+1)) (cap- (k+1))) rfl (fun u hu=>q6c elCo u (Nat.succ_le_succ HK.out) HAD.out rfl rfl rfl) hw ?_
 refine j0b<|aO 6 (j03 (gd:=none) (R:=fun v M'=>v= .slice (some ⟨g,0,none⟩) q cap∧q9d 137 35 g q cap (xs++ys) M0 M') rfl rfl rfl rfl (fun u hu=>q80 elCo M0 hu HG.out mH (fun y hy=>⟨mT hy,HM0.out y hy⟩) HRR.out (by have h1:=HC.out;omega) HSZ.out HXT.out HYL.out HON.out (HSRC.out u hu) rfl rfl) ?_)
 rintro _ _ ⟨rfl,cur2,rfl,hs2,hx2⟩ he11;intro K' hK';go_big_quiet_op;go_big_quiet_on
 have HS2:=hD hs2
 have HX2:=hD hx2
 clear hs2 hx2
 refine phF [7] 0 rfl he11 fun hw=>?_
 refine qo rfl hw ?_
 refine eH fun u14 EX13=>?_
 go_upto_region 6 with (fail)
 refine rgQ [0,1,2,3,4] [5] EX13 rfl fun hw=>?_
 refine qw 2 hw ?_
 refine qv rfl (fun u hu=>j0l underlying39 HQ63.out u rfl) hw ?_
 refine qo rfl hw ?_
 refine qv (v:= .slice (some ⟨g,q*35,none⟩) 1 (cap- q)) rfl (fun u hu=>q4r elCo u (show q≤q+1 by omega) HC.out (show q+1- q=1 by omega) HAQ.out rfl rfl rfl) hw ?_
 refine j0b<|(j03 (gd:=none) (R:=fun v M'=>v= .tuple #[]∧q9d 137 35 g q cap (xs++ys) M0 M') rfl rfl rfl rfl (fun u hu=>q4k elCo M0 (fun v hv=>j9r j1w v hv) hu HG.out mH (fun y hy=>⟨mT hy,HM0.out y hy⟩) Nat.one_pos rfl (by have h1:=HC.out;omega) HS2.out HX2.out rfl) ?_)
 rintro _ _ ⟨rfl,cur3,rfl,hs3,hx3⟩ he16;intro K' hK';go_big_quiet_op;go_big_quiet_on
 have HS3:=hD hs3
 have HX3:=hD hx3
 clear hs3 hx3
 change j1E _ _ _ _ _ _ ((g,oc cur3 137)::M0)
 refine enL fun u18 EX17=>?_
 go_upto_region 7 with (fail)
 refine rgQ [0,1] [] EX17 rfl fun hw=>?_
 refine qw 2 hw ?_
 refine enP fun u21 EX20=>?_
 have EF:=hD EX20.out
 have HCL:=HC.out
 go_wp2
 go_ret
 exact⟨_,_,rfl,EF.out,[(g,oc cur3 137)],rfl, .inl ⟨g,cap,cur3,rfl,rfl,by omega,HCM.out,HS3.out,HX3.out⟩,fun y hy=>by cases mS.1 hy;exact⟨HG.out,HM0.out⟩⟩
def WoR(p:List CoinR)(xs:List InR)(w:World)(B:Nat)(v:Value)(m:Int)(b:Bool):Prop:=match j1Z p xs with
  |none=>v= .slice none 0 0∧m=0∧b=false
  |some r=>w.ownsRow B 137 35 v r.1.length (r.1.map coC).flatten∧m=r.2∧b=true
def WoE(p:List CoinR)(xs:List InR)(w:World)(B:Nat)(e:Ending):Prop:= ∃v m b,e= .returned (.tuple #[v, .int .i64 m, .bool b])∧WoR p xs w B v m b
theorem WoE.mk{p:List CoinR}{xs:List InR}{w:World}{B:Nat}(v:Value)(m:Int)(b:Bool)(h:WoR p xs w B v m b):WoE p xs w B (.returned (.tuple #[v, .int .i64 m, .bool b])):=⟨v,m,b,rfl,h⟩
theorem j95 (p:List CoinR) (A:Option Addr) (n c:Nat) (xs:List InR) (A1:Option Addr) (n1 c1:Nat) (w:World) (hl:p.length=n) (hI:okP p) (hmay:j3h p=true) (hA:CoinsIn w w.heap.size A p) (hl1:xs.length=n1) (hn1:n1≤1000) (hI1:okIns xs) (hA1:InsIn w w.heap.size A1 xs):
  Calls Tryz.prog 229 #[.slice A n c, .slice A1 n1 c1] w fun e w'=>WoE p xs w' w.heap.size e∧Below w.heap.size w w':=by
 have hn48:n≤48:=by rw[←hl];exact(mayP_iff.1 hmay).1
 have HCLN:Hid (∀u,Below w.heap.size w u→Calls Tryz.prog 131 #[.slice A n c] u fun e w'=>(∃v,e= .returned v∧w'.ownsRow u.heap.size 137 35 v n (p.map coC).flatten)∧Below u.heap.size u w'):=fun u hu=>j3n p A n c u hl (by omega) hI (CellsIn.up hA hu)
 have HL:=hD hl
 have HPP:=hD hI
 have HMAY:=hD hmay
 have HL1:=hD hl1
 have HN1:Hid (n1≤1000):=hn1
 have HM63:Hid (n1<9223372036854775808):=by show _<_;omega
 have HI1:=hD hI1
 have HA1:Hid (InsIn w w.heap.size A1 xs):=hA1
 have E1:Hid (EnvX w w []):=EnvX.start w
 clear hl hI hmay hA hl1 hn1 hI1 hA1 hn48
 go_enter func229,ntmps229
 go_upto_region 1 with (fail)
 refine rgQ [0] [1,2,3] E1 rfl fun hw=>?_
 refine qo rfl hw ?_
 refine j0b<|qr rfl func131 (fun u hu=>j0i (HCLN.out u (EnvX.bel hu))) ?_
 rintro x0 N0 hF hf he2
 have HF0:=hD (And.intro hF hf)
 clear hF
 clear hf
 refine phE [2,3] [] he2 fun hw=>?_
 refine qw 2 hw ?_
 refine enP fun u5 EX4=>?_
 go_upto_region 2 with (fail)
 refine rgQ [0,1,2] [] EX4 rfl fun hw=>?_
 refine qo rfl hw ?_
 refine qv rfl (fun u hu=>j0l underlying74 HM63.out u rfl) hw ?_
 refine qo rfl hw ?_
 refine enP fun u8 EX7=>?_
 have HINV:Hid (j1Z p (xs.take 0)=some (p,0)∧ ∃N,FreshR 137 35 p.length (p.map coC).flatten x0 N∧j01 w N []∧EnvX w u8 (N++[])):=by
  refine⟨rfl,N0,?_,HF0.out.2,EX7.out⟩
  rw[HL.out]
  exact HF0.out.1
 clear EX7 E1 HF0
 go_upto_region 3 with (fail)
 go_loopw [7,8,16] (fun lv mv iv u=> ∃(i:Nat)(l:List CoinR)(m:Int),i≤n1∧iv= .int .i64 (i:Int)∧mv= .int .i64 m∧Hid (j1Z p (xs.take i)=some (l,m)∧ ∃N,FreshR 137 35 l.length (l.map coC).flatten lv N∧j01 w N []∧EnvX w u (N++[]))) (fun _ _ iv _=>n1- (intOf iv).toNat)
 case atStart=>exact⟨0,p,0,by omega,rfl,rfl,HINV⟩
 case round=>
  obtain⟨i,l,m,hi,rfl,rfl,hinv⟩:=hrel
  obtain⟨htk,N,hF,hfr,hE⟩:=hinv.out
  have EK:=hD hE
  have HTK:=hD htk
  have htb:=j5n HMAY.out HPP.out htk
  have HTB:=hD htb
  have hup:upP l:=(mayP_iff.1 HMAY.out).2.2.sublist (j4B _ _ _ htk).1
  have HUP:=hD hup
  have HF:=hD hF
  have HFR:=hD hfr
  clear hinv HINV hE htk htb hF hfr hup
  by_cases hlt:i<n1
  · have C3:Hid (decide ((i:Int)<(n1:Int))=true):=decide_eq_true (by omega)
    have HI:=hD hlt
    have hil:i<xs.length:=by rw[HL1.out];exact hlt
    have HIL:=hD hil
    obtain⟨ad,hA1,-,hld⟩:=HA1.out.loads HI1.out hil
    have hA1':A1=some ad:=hA1
    subst hA1'
    have HLD:=hD hld
    have HXO:Hid (okIn (xs.getD i j14)):=HI1.out.get hil
    have HX:Hid (j3e (xs.getD i j14)):=HXO.out.len
    obtain⟨x,hx⟩: ∃x,xs.getD i j14=x:=⟨_,rfl⟩
    have HXE:=hD hx
    rw[hx]at HLD HX HXO
    obtain⟨A3,c3,rfl,hc1,hc2⟩:=FreshR.formC HF.out
    have HFD0:Hid (∀u,EnvX w u (N++[])→Calls Tryz.prog 235 #[.slice A3 l.length c3,inV x] u fun e w'=>e= .returned (.int .i64 (j4s l x))∧Below u.heap.size u w'):=fun u hu=>
      q6Y l A3 l.length c3 x u rfl (by have:=HTB.out.2.1;omega) hc1 hc2 HTB.out.1 HUP.out (j2k (HF.out.own (B:=0) (j3Y HTB.out.1.lens) (fun y hy=>⟨Nat.zero_le _,hu.box _ _ (mL hy)⟩))) HXO.out
    obtain⟨kf,hkf⟩: ∃kf,j4s l x=kf:=⟨_,rfl⟩
    have HKF:=hD hkf
    rw[hkf]at HFD0
    have HFD:=hD HFD0.out
    clear hlt hil hA1 hld hx hc1 hc2 hkf HFD0
    go_upto_region 3 with (fail)
    refine rgQ [0] [] EK rfl fun hw=>?_
    refine qv rfl (fun u hu=>j0o u C3.out rfl rfl) hw ?_
    refine enP fun u23 EX22=>?_
    go_upto_region 4 with (fail)
    refine rgQ [0,1] [2,3] EX22 rfl fun hw=>?_
    refine qv rfl (fun u hu=>j0h underlying74 aggIn.size HI.out u rfl rfl) hw ?_
    refine qv rfl (fun u hu=>j0a u (HLD.out u (nl hu)).1 rfl) hw ?_
    refine j0b<|qn rfl (q57 _) fun gx HG6 he25=>?_
    change j1E _ _ _ _ _ _ ((gx,oc (inA j14) 133)::(N++[]))
    refine(sh rfl HG6 (q6m _ (j4l HX.out)) ((q0a).trans (j4l HX.out).symm) (q2I _) ?_)
    refine fun _=>enL fun u28 EX27=>?_
    go_upto_region 5 with (fail)
    refine rgQ [0,1,2,3] [] EX27 rfl fun hw=>?_
    refine qo rfl hw ?_
    refine ql rfl mH HX.out hw ?_
    refine qc rfl func235 (fun u hu=>HFD.out u (EnvX.sub hu (fun y hy=>mT hy))) hw ?_
    refine qo rfl hw ?_
    refine enP fun u31 EX30=>?_
    by_cases hk:kf<0
    · have C6:Hid (decide (kf<0)=true):=decide_eq_true hk
      have HNO:Hid (j1Z p xs=none):=q4X j14 HIL.out HTK.out (by
        rw[HXE.out]
        rcases j3z l x with ⟨e,_⟩|⟨j,_,e,_⟩
        · exact e
        · rw[HKF.out]at e;omega)
      clear hk
      go_upto_region 6 with (fail)
      refine rgQ [0,1] [] EX30 rfl fun hw=>?_
      refine qo rfl hw ?_
      refine qv rfl (fun u hu=>j0o u C6.out rfl rfl) hw ?_
      refine enP fun u34 EX33=>?_
      go_upto_region 7 with (fail)
      refine rgQ [0,1,2] [] EX33 rfl fun hw=>?_
      refine qw 3 hw ?_
      refine enP fun u37 EX36=>?_
      have HBE:=hD (EnvX.bel EX36.out)
      go_wp2
      go_returns
      exact⟨WoE.mk (.slice none 0 0) 0 false (by unfold WoR;rw[HNO.out];exact⟨rfl,rfl,rfl⟩),HBE.out⟩
    obtain⟨k,rfl⟩: ∃k:Nat,kf=(k:Int):=Int.eq_ofNat_of_zero_le (by omega)
    have C6:Hid (decide ((k:Int)<0)=false):=decide_eq_false hk
    have hpl:=j8J j1w HKF.out
    have hkl:=hpl.1
    have hst:=q4e (xs:=xs) j14 j1w HIL.out HTK.out (by rw[HXE.out];exact HKF.out)
    have HTB2:=hD (j5n HMAY.out HPP.out hst)
    have HST:=hD hst
    obtain⟨q,hq⟩: ∃q,l.length=q+1:=⟨l.length- 1,by omega⟩
    rcases HF.out with ⟨g,cap,cur,e1,e2,f1,f2,f3,f4⟩|⟨_,_,f0,_⟩
    case inr=>omega
    injection e1 with e1 e3 e4
    have e4':=e4.symm
    clear e4
    subst e1 e2 e4'
    have HGW:=hD (HFR.out _ (mS.2 rfl))
    have HLV:Hid (∀u,EnvX w u [(g,oc cur 137)]→(loadVar 3 ((⟨g,0,none⟩:Addr).add (k*35)|>.add 33)).run Tryz.prog u= .ok (.int .i64 (l.getD k j1w).v) u):=fun u hu=>by
      have h1:=j2k (HF.out.own (w:=u) (B:=0) (j3Y HTB.out.1.lens) (fun y hy=>⟨Nat.zero_le _,hu.box _ _ hy⟩))
      obtain⟨ad3,e5,-,hl3⟩:=CoinsIn.loads h1 HTB.out.1 hkl
      cases e5
      exact(hl3 u (EnvX.start u)).2.2.2.2.2.1
    have HKL:Hid (k<q+1):=by show _<_;omega
    have HPI:Hid (IntKind.i64.wrap ((k:Int)+1)=((k+1:Nat):Int)):=by show _=_;have:=HTB.out.2.1;rw[j6R (by omega)];omega
    have HADD:Hid (IntKind.i64.wrap (m+(l.getD k j1w).v)=m+(l.getD k j1w).v):=j6R (by have:=HTB2.out.2.2.1;have:=HTB2.out.2.2.2.1;omega)
    have HQL:Hid ((l.take k++l.drop (k+1)).length=q):=by show _=_;rw[lA,List.length_take,List.length_drop];omega
    have HDL:Hid (∀u M0,EnvX w u ((g,oc cur 137)::M0)→(∀y∈M0,y.1≠g)→Calls Tryz.prog 236 #[.slice (some ⟨g,0,none⟩) (q+1) cap, .int .i64 (k:Int), .int .i64 ((k+1:Nat):Int)] u fun e w''=> ∃x M',e= .returned x∧EnvX w w'' M'∧j1N w 137 35 q ((l.take k++l.drop (k+1)).map coC).flatten M0 x M'):=fun u M0 hu hm=>
      q15 l q k g cap cur w u M0 hq (by omega) (by have:=HTB.out.2.1;omega) HTB.out.1 HGW.out.1 hu hm (by omega) f2 f3 (by rw[←hq];exact f4)
    rw[hq]
    have HQ:=hD hq
    generalize hyv:(l.getD k j1w).v=yv at HLV HADD
    have HYV:=hD hyv
    clear hk hpl hkl hst hq f1 f2 f3 f4 e3 hyv
    go_upto_region 6 with (fail)
    refine rgQ [0,1] [] EX30 rfl fun hw=>?_
    refine qo rfl hw ?_
    refine qv rfl (fun u hu=>j0o u C6.out rfl rfl) hw ?_
    refine enP fun u34 EX33=>?_
    go_upto_region 8 with (fail)
    refine rgQ [0,1,2,3,4,5,6,7,8] [] EX33 rfl fun hw=>?_
    refine qw 3 hw ?_
    refine qv rfl (fun u hu=>j0h underlying39 aggCo.size HKL.out u rfl rfl) hw ?_
    refine qv (v:= .pointer (some (((⟨g,0,none⟩:Addr).add (k*35)).add 33))) rfl (fun u hu=>j1Y (k:=1) (off:=33) rfl u rfl) hw ?_
    refine qv (v:= .pointer (some ((((⟨g,0,none⟩:Addr).add (k*35)).add 33).add 0))) rfl (fun u hu=>j7K (k:=0) (off:=0) rfl u rfl) hw ?_
    refine qv (v:= .int .i64 yv) rfl (fun u hu=>j0a u (by have h:=HLV.out u (EnvX.sub hu (fun y hy=>mT hy));rwa[show ((((⟨g,0,none⟩:Addr).add (k*35)).add 33).add 0)=((⟨g,0,none⟩:Addr).add (k*35)).add 33 by unfold Addr.add;rfl]) rfl) hw ?_
    refine qv rfl (fun u hu=>j3H u HADD.out rfl rfl) hw ?_
    refine qo rfl hw ?_
    refine enP fun u37 EX36=>?_
    go_upto_region 9 with (fail)
    refine rgQ [0,1,2,3] [4,5] EX36 rfl fun hw=>?_
    refine qw 3 hw ?_
    refine qv rfl (fun u hu=>j3H u HPI.out rfl rfl) hw ?_
    refine j0b<|(j0X (gd:=none) (R:=j1N w 137 35 q ((l.take k++l.drop (k+1)).map coC).flatten [(gx,oc (inA x) 133)]) rfl rfl rfl rfl (fun u hu=>j0D (fid:=236) (xs:= #[.tmp 33, .tmp 34, .tmp 36]) (args:= #[.slice (some ⟨g,0,none⟩) (q+1) cap, .int .i64 (k:Int), .int .i64 ((k+1:Nat):Int)]) rfl func236 rfl rfl u (HDL.out u _ (EnvX.sub hu (fun y hy=>(List.mem_cons.1 hy).elim (fun h=>by rw[h];exact mT mH) (fun h=>by rw[mS.1 h];exact mH))) (fun y hy=>by cases mS.1 hy;exact Ne.symm (HG6.out.2 (g,_) mH)))) ?_)
    rintro x9 M' ⟨N9,rfl,hF9,hn9⟩ he39;intro K' hK';go_big_quiet_op;go_big_quiet_on
    have HF9:=hD hF9
    have HN9:=hD hn9
    clear hF9 hn9
    refine phE [5] [] he39 fun hw=>?_
    refine qo rfl hw ?_
    refine enP fun u42 EX41=>?_
    have HNX:Hid (j1Z p (xs.take (i+1))=some ((l.take k++l.drop (k+1)),m+yv)∧ ∃N,FreshR 137 35 (l.take k++l.drop (k+1)).length ((l.take k++l.drop (k+1)).map coC).flatten x9 N∧j01 w N []∧EnvX w u42 (N++[])):=by
      rw[HYV.out]at HST
      refine⟨HST.out,N9,?_,fun y hy=>⟨(HN9.out y hy).1,fun z hz=>by cases hz⟩,EnvX.sub EX41.out (fun y hy=>?_)⟩
      · rw[HQL.out];exact HF9.out
      · rw[List.append_nil]at hy
        exact mL hy
    have hii:=HI.out
    have hn:=HN1.out
    go_wp2
    go_roundw
    case rel=>exact⟨i+1,l.take k++l.drop (k+1),m+yv,by omega,by go_num,rfl,HNX⟩
    case measure=>simp[intOf];omega
  · obtain rfl:i=n1:=by omega
    have C3:Hid (decide ((i:Int)<(i:Int))=false):=decide_eq_false (by omega)
    have HT:Hid (j1Z p xs=some (l,m)):=by
      have h:=HTK.out
      rwa[tL (by rw[HL1.out];exact Nat.le_refl _)]at h
    go_upto_region 3 with (fail)
    refine rgQ [0] [] EK rfl fun hw=>?_
    refine qv rfl (fun u hu=>j0o u C3.out rfl rfl) hw ?_
    refine enP fun u303 EX302=>?_
    go_upto_region 11 with (fail)
    refine rgQ [0,1,2,3,4] [] EX302 rfl fun hw=>?_
    refine qw 5 hw ?_
    refine enP fun u306 EX305=>?_
    have HBE:=hD (EnvX.bel EX305.out)
    have HOW:=hD (HF.out.own (w:=u306) (B:=w.heap.size) (j3Y HTB.out.1.lens) (fun y hy=>⟨(HFR.out y hy).1,EnvX.box EX305.out _ _ (mL hy)⟩))
    go_wp2
    go_returns
    exact⟨WoE.mk _ m true (by unfold WoR;rw[HT.out];exact⟨HOW.out,rfl,rfl⟩),HBE.out⟩
theorem j3F{P:Program}{ops:Array Oper}{rest:List Oper}{o:Oper}{a:Act}{w w':World}{Q:Exit→Act→World→Prop}{v y v':Value}{t tn:TypeId}(hgd:o.guard=none)(s x:Operand)
  (ho:o.op= .call {callee:= .builtin .append,args:= #[s,x],argTypes:= #[t,tn]}) (hs:a.eval s=v) (hx:a.eval x=y)
  (hrun: ∀ty,(Builtin.append_ #[t,tn] ty #[v,y]).run P w= .ok v' w') (h:wpList P ops Q rest (a.put o.dst v') w'):wpList P ops Q (o::rest) a w:=
 wpList_plain hgd fun _ hK=>by
  unfold Oper.wp execOp
  simp only[ho,resolve,invoke,builtin,Sem.run_bind,Sem.run_pure,Result.andThen_ok,List.map_toArray,List.map_cons,List.map_nil,hs,hx,hrun]
  exact hK _ _ h
theorem x0j(n:Nat)(w:World)(h0:0<n)(hn:n≤1000000):
  Calls Tryz.prog 171 #[.slice none 0 0, .int .i64 (n:Int)] w fun e w'=>(∃v,e= .returned v∧OwnB w' w.heap.size v [])∧Below w.heap.size w w':=by
 have hT:=elB.info
 cases hq:Tryz.prog.info? 5 with
 |none=>rw[hq]at hT;cases hT
 |some i=>
  rw[hq]at hT
  simp only[Option.map_some,Option.some.injEq,Prod.mk.injEq]at hT
  obtain⟨k1,k2,k3⟩:=hT
  have hrz:Hid (∀ty,(Builtin.append_ #[100,3] ty #[.slice none 0 0, .int .i64 (n:Int)]).run Tryz.prog w=_):=fun ty=>Lib.run_append_nil_zeros w 100 3 ty 5 i _ .i64 .i64 underlying100 underlying3 hq k1 n h0 (by omega) (by omega) (by rw[k3];omega)
  have hG:=grownCap_ge w n 0 5
  have hG2:=grownCap_le_maxLen w n 0 5 (by unfold maxLen;omega)
  obtain⟨G,hGe⟩: ∃G,G=grownCap w n 0 5:=⟨_,rfl⟩
  rw[←hGe]at hrz hG hG2
  have hcs:(Builtin.zeroCells (Value.int .u8 0).cells n++Builtin.zeroCells (Value.int .u8 0).cells (G- n)).size=G:=by
    simp[Builtin.zeroCells,Value.cells]
    omega
  generalize Builtin.zeroCells (Value.int .u8 0).cells n++Builtin.zeroCells (Value.int .u8 0).cells (G- n)=cur at *
  have h1: ¬((n:Int)<0):=by omega
  have h2:wrap64 ((n:Int))=(n:Int):=by unfold wrap64;omega
  have h4:(n:Int)>0:=by omega
  have h5:0<(n:Int):=by omega
  have hG63:G≤9223372036854775807:=by unfold maxLen at hG2;omega
  have HC:=hD hcs
  have HG:=hD (And.intro hG hG2)
  clear hcs hG hG2 hGe k1 k2 k3 hq
  go_enter func171,ntmps171
  go_wp2_with (at_builtin;(with_reducible refine j3F (o:=⟨some 22,_,_,_,_,_⟩) ?_ (.tmp 20) (.tmp 21) ?_ ?_ ?_ hrz.out ?_);(rfl);(rfl);(rfl);(rfl))
  all_goals (go_ret;skip)
  refine⟨⟨_,rfl,?_⟩,?_⟩
  · refine⟨rfl, .inr ⟨w.heap.size,G,cur,rfl,Nat.le_refl _,?_,Nat.zero_le _,HG.out.2,by rw[HC.out];omega,by simp⟩⟩
    exact heap_alloc_new w.drew _
  · exact((Below.refl _ w).drew).alloc (Nat.le_refl _) _
theorem j6H(xss:List (List Int))(k:Nat):(xss.take k).flatten.length≤xss.flatten.length:=by
 conv=>rhs;rw[←List.take_append_drop k xss,List.flatten_append,lA]
 omega
/-- bytes that are put one behind the other -/
theorem j8T(A:Option Addr)(n c:Nat)(xss:List (List Int))(w:World)(hl:xss.length=n)(hx:Parts w w.heap.size A xss)(hn:n≤1000000)(hp:0<xss.flatten.length)(hs:xss.flatten.length≤1000000):
  Calls Tryz.prog 112 #[.slice A n c] w fun e w'=>(∃v,e= .returned v∧OwnB w' w.heap.size v xss.flatten)∧Below w.heap.size w w':=by
 have HL:=hD hl
 have HX:=hD hx
 have HP:=hD hp
 have HS:=hD hs
 clear hl hx hp hs
 go_enter func112,ntmps112
 go_wp2_with fail
 go_loopw [3,11] (fun v i u=> ∃k:Nat,k≤n∧i= .int .i64 (k:Int)∧v= .int .i64 ((xss.take k).flatten.length:Int)∧u=w) (fun _ i _=>n- (intOf i).toNat)
 case atStart=>exact⟨0,by omega,rfl,rfl,rfl⟩
 case round=>
  obtain⟨k,hk,rfl,rfl,hU⟩:=hrel
  obtain rfl:=hU.symm
  by_cases hlt:k<n
  · have hg:=gE (by rw[HL.out];exact hlt:k<xss.length)
    have hst:=congrArg List.length (j7G xss k _ hg)
    rw[lA]at hst
    obtain⟨b,o,a,c1,rfl,hb,hc,hy,hr⟩:=HX.out k _ hg
    have hle:=j6H xss (k+1)
    have h6:=HS.out
    generalize xss[k]'(by rw[HL.out];exact hlt)=ys at *
    have HST:=hD hst
    generalize (xss.take k).flatten.length=p1 at *
    generalize ys.length=m at *
    have hadd:wrap64 ((p1:Int)+(m:Int))=(p1:Int)+(m:Int):=by unfold wrap64;omega
    have hneg: ¬((p1:Int)+(m:Int)<0):=by omega
    have hk2:(k:Int)<(n:Int):=by omega
    clear hg hy hr hle h6 hst
    go_wp2
    go_roundw
    case rel=>exact⟨k+1,by omega,by go_num,by rw[HST.out,hadd,Int.natCast_add],trivial⟩
    case measure=>simp[intOf];omega
  · obtain rfl:k=n:=by omega
    have hT:xss.take k=xss:=tL (by rw[HL.out];exact Nat.le_refl _)
    rw[hT]
    obtain⟨q,hq⟩: ∃q,xss.flatten.length=q:=⟨_,rfl⟩
    have hq1:=HP.out
    have hq2:=HS.out
    rw[hq]at hq1 hq2 ⊢
    have HQ:=hD hq
    clear hq hT
    go_wp2_with fail
    refine(x0j q w hq1 hq2).mono ?_
    rintro e w2 ⟨⟨v2,rfl,hv2⟩,hb2⟩
    have HO:=hD hv2
    have HB:=hD hb2
    clear hv2 hb2
    go_wp2_with fail
    go_loopw [6,27] (fun v i u=> ∃j:Nat,j≤k∧i= .int .i64 (j:Int)∧Hid (OwnB u w.heap.size v (xss.take j).flatten∧Below w.heap.size w u)) (fun _ i _=>k- (intOf i).toNat)
    case atStart=>exact⟨0,by omega,rfl,HO.out,HB.out⟩
    case round=>
     obtain⟨j,hj,rfl,hinv⟩:=hrel
     obtain⟨hO,hB⟩:=hinv.out
     clear hinv
     by_cases hjt:j<k
     · have hg:=gE (by rw[HL.out];exact hjt:j<xss.length)
       have hst:=hD (j7G xss j _ hg)
       obtain⟨b,o,a,c1,rfl,hb,hc,hy,hr⟩:=HX.out j _ hg
       have hle:=j6H xss (j+1)
       rw[hst.out,lA]at hle
       have h6:=HS.out
       generalize xss[j]'(by rw[HL.out];exact hjt)=ys at *
       obtain⟨v',w',hrun,hown',hb2⟩:=hO.append (c:=c1) rfl (hy.below hB) (by omega) hB.size
       have hcell:=(hB.cell (p:=⟨b,o+j,none⟩) hb).trans hc
       have HN:Hid (OwnB w' w.heap.size v' (xss.take (j+1)).flatten∧Below w.heap.size w w'):=⟨by rw[hst.out];exact hown',hB.trans hb2⟩
       have HRUN:=hD hrun
       have hj2:(j:Int)<(k:Int):=by omega
       clear hg hc hy hr hrun hown' hb2 hle h6 hO hB hst
       generalize ys.length=m at *
       go_wp2_with (at_builtin;(with_reducible refine wpList_append_run (o:=⟨some 33,_,_,_,_,_⟩) ?_ (.tmp 31) (.tmp 32) ?_ ?_ ?_ ?_ HRUN.out ?_);(rfl);(rfl);(rfl);(rfl);(rfl))
       go_roundw
       case rel=>exact⟨j+1,by omega,by go_num,HN⟩
       case measure=>simp[intOf];omega
     · obtain rfl:j=k:=by omega
       have hge: ¬(j:Int)<(j:Int):=by omega
       have hT:xss.take j=xss:=tL (by rw[HL.out];exact Nat.le_refl _)
       rw[hT]at hO
       have HO2:=hD hO
       have HB2:=hD hB
       clear hO hB hT
       go_wp2
       go_ret
       exact⟨⟨_,rfl,HO2.out⟩,HB2.out⟩
theorem j3s{u:World}{B g k:Nat}{xs:List Int}(hg:g<B)(h:j53 u ⟨g,k,none⟩ (xs.map u8v)):Bytes u B (some ⟨g,k,none⟩) xs:=fun _=>⟨_,rfl,hg,h⟩
def PartsAt(w:World)(B g k:Nat)(xss:List (List Int)):Prop:= ∀(j:Nat)(xs:List Int),xss[j]?=some xs→ ∃(a:Option Addr)(c:Nat),w.cell? ⟨g,k+j,none⟩=some (.slice a xs.length c)∧Bytes w B a xs∧ ∀x∈xs,0≤x∧x≤255
theorem PartsAt.nil{w:World}{B g k:Nat}:PartsAt w B g k []:=fun j xs h=>by simp at h
theorem PartsAt.cons{w:World}{B g k n c:Nat}{a:Option Addr}{xs:List Int}{xss:List (List Int)}(hc:w.cell? ⟨g,k,none⟩=some (.slice a n c))(hn:xs.length=n)(hx:Bytes w B a xs)(hr: ∀x∈xs,0≤x∧x≤255)(h:PartsAt w B g (k+1) xss):PartsAt w B g k (xs::xss):=by
 subst hn
 intro j ys hj
 cases j with
 |zero=>
  obtain rfl:xs=ys:=by simpa using hj
  exact⟨a,c,hc,hx,hr⟩
 |succ j=>
  obtain⟨a',c',h1,h2,h3⟩:=h j ys (by simpa using hj)
  exact⟨a',c',by rw[show k+(j+1)=k+1+j by omega];exact h1,h2,h3⟩
theorem q1y{w:World}{B g:Nat}{xss:List (List Int)}(hg:g<B)(h:PartsAt w B g 0 xss):Parts w B (some ⟨g,0,none⟩) xss:=by
 intro k xs hk
 obtain⟨a,c,h1,h2,h3⟩:=h k xs hk
 exact⟨g,0,a,c,rfl,hg,h1,h2,h3⟩
def OwnCo(w:World)(B:Nat)(v:Value)(l:List CoinR):Prop:=w.ownsRow B 137 35 v l.length (l.map coC).flatten
def x1n(w:World)(B:Nat)(A:Option Addr)(pss:List (List CoinR)):Prop:= ∀(k:Nat)(ps:List CoinR),pss[k]?=some ps→ ∃b o a c,A=some ⟨b,o,none⟩∧b<B∧w.cell? ⟨b,o+k,none⟩=some (.slice a ps.length c)∧CoinsIn w B a ps∧okP ps
theorem j8U{α:Type}(xss:List (List α))(k:Nat)(xs:List α)(h:xss[k]?=some xs):(xss.take (k+1)).flatten=(xss.take k).flatten++xs:=by
 rw[List.take_add_one,h]
 simp
theorem j5G{α:Type}(xss:List (List α))(k:Nat):(xss.take k).flatten.length≤xss.flatten.length:=by
 conv=>rhs;rw[←List.take_append_drop k xss,List.flatten_append,lA]
 omega
theorem OwnCo.append{w:World}{B B' c:Nat}{v:Value}{l ps:List CoinR}{a:Option Addr}(h:OwnCo w B v l)(hy:CoinsIn w B' a ps)(hok:okP ps)(hs:l.length+ps.length≤2000000)(hB:B≤w.heap.size):
  ∃v' w',(∀ty,(Builtin.append_ #[39,39] ty #[v, .slice a ps.length c]).run Tryz.prog w= .ok v' w')∧OwnCo w' B v' (l++ps)∧Below B w w':=by
 unfold OwnCo at *
 have hfl:(ps.map coC).flatten.length=ps.length*35:=j3Y hok.lens
 cases a with
 | none=>
  have h0:ps=[]:=by
   refine List.eq_nil_of_length_eq_zero (Nat.eq_zero_of_not_pos fun hp=>?_)
   obtain⟨ad,e,_⟩:=hy (by rw[hfl];omega)
   cases e
  subst h0
  obtain⟨A1,c1,rfl,k1,k2⟩:=q6H h
  cases hi:Tryz.prog.info? 137 with
  |none=>have:=elCo.info;rw[hi]at this;cases this
  |some i=>
   have hrun: ∀ty,(Builtin.append_ #[39,39] ty #[.slice A1 l.length c1, .slice none 0 c]).run Tryz.prog w= .ok (.slice A1 l.length c1) w:=fun ty=>by
     cases A1<;>simp[Builtin.append_,run_underlying elCo.und,sizeOf,typeInfo,hi,Builtin.lenOf,Builtin.firstCells,k1,storeCells]
   refine⟨_,w,hrun,?_,Below.refl _ _⟩
   rw[List.append_nil]
   exact h
 | some ad=>
  have hc: ∀j u,((ps.map coC).flatten)[j]?=some u→w.cell? (ad.add j)=some u:=fun j u hu=>by
   obtain⟨ad',e,_,hcc⟩:=hy (by
     rcases Nat.eq_zero_or_pos ((ps.map coC).flatten).length with h0|h0
     · rw[List.eq_nil_of_length_eq_zero h0]at hu;simp at hu
     · exact h0)
   obtain rfl:=Option.some.inj e
   exact hcc j u hu
  cases hq:Tryz.prog.info? 137 with
  |none=>have:=elCo.info;rw[hq]at this;cases this
  |some i=>
   have hi:=elCo.info
   rw[hq]at hi
   simp only[Option.map_some,Option.some.injEq,Prod.mk.injEq]at hi
   obtain⟨k1,k2,k3⟩:=hi
   obtain⟨v',w',hrun,hown',hg,_,ho⟩:=run_append_own_at (P:=Tryz.prog) w B 39 39 137 i (coV j1w) 35 56 elCo.und hq k1 k2 k3 elCo.zs elCo.pos v l.length _ h ad ps.length c _ hfl hc (j7g ps) (by unfold maxLen;omega) (by omega) hB
   refine⟨v',w',fun ty=>?_,?_,j1B hg (fun r hr=>(h.lt r hr).1) hB⟩
   · exact hrun
   · rw[lA,List.map_append,List.flatten_append]
     exact hown'
theorem q5P(n:Nat)(w:World)(h0:0<n)(hn:n≤1000000):
  Calls Tryz.prog 239 #[.slice none 0 0, .int .i64 (n:Int)] w fun e w'=>(∃v,e= .returned v∧OwnCo w' w.heap.size v [])∧Below w.heap.size w w':=by
 have hT:=elCo.info
 cases hq:Tryz.prog.info? 137 with
 |none=>rw[hq]at hT;cases hT
 |some i=>
  rw[hq]at hT
  simp only[Option.map_some,Option.some.injEq,Prod.mk.injEq]at hT
  obtain⟨k1,k2,k3⟩:=hT
  have hrz:Hid (∀ty,(Builtin.append_ #[39,3] ty #[.slice none 0 0, .int .i64 (n:Int)]).run Tryz.prog w=_):=fun ty=>Lib.run_append_nil_zeros w 39 3 ty 137 i _ .i64 .i64 underlying39 underlying3 hq k1 n h0 (by omega) (by omega) (by rw[k3];omega)
  have hG:=grownCap_ge w n 0 137
  have hG2:=grownCap_le_maxLen w n 0 137 (by unfold maxLen;omega)
  obtain⟨G,hGe⟩: ∃G,G=grownCap w n 0 137:=⟨_,rfl⟩
  rw[←hGe]at hrz hG hG2
  have hcs:(Builtin.zeroCells (coV j1w).cells n++Builtin.zeroCells (coV j1w).cells (G- n)).size=G*35:=by
    have hz:=elCo.zs
    rw[Array.size_append]
    simp only[Builtin.zeroCells,Array.size_map,Array.size_range,hz]
    omega
  generalize Builtin.zeroCells (coV j1w).cells n++Builtin.zeroCells (coV j1w).cells (G- n)=cur at *
  have h1: ¬((n:Int)<0):=by omega
  have h2:wrap64 ((n:Int))=(n:Int):=by unfold wrap64;omega
  have h4:(n:Int)>0:=by omega
  have h5:0<(n:Int):=by omega
  have hG63:G≤9223372036854775807:=by unfold maxLen at hG2;omega
  have HC:=hD hcs
  have HG:=hD (And.intro hG hG2)
  clear hcs hG hG2 hGe k1 k2 k3 hq
  go_enter func239,ntmps239
  go_wp2_with (at_builtin;(with_reducible refine j3F (o:=⟨some 22,_,_,_,_,_⟩) ?_ (.tmp 20) (.tmp 21) ?_ ?_ ?_ hrz.out ?_);(rfl);(rfl);(rfl);(rfl))
  all_goals (go_ret;skip)
  refine⟨⟨_,rfl,?_⟩,?_⟩
  · refine⟨rfl, .inr ⟨w.heap.size,G,cur,rfl,Nat.le_refl _,?_,Nat.zero_le _,HG.out.2,HC.out,by simp⟩⟩
    exact heap_alloc_new w.drew _
  · exact((Below.refl _ w).drew).alloc (Nat.le_refl _) _
/-- bytes that are put one behind the other -/
theorem q2h(A:Option Addr)(n c:Nat)(xss:List (List CoinR))(w:World)(hl:xss.length=n)(hx:x1n w w.heap.size A xss)(hn:n≤1000000)(hp:0<xss.flatten.length)(hs:xss.flatten.length≤1000000):
  Calls Tryz.prog 231 #[.slice A n c] w fun e w'=>(∃v,e= .returned v∧OwnCo w' w.heap.size v xss.flatten)∧Below w.heap.size w w':=by
 have HL:=hD hl
 have HX:=hD hx
 have HP:=hD hp
 have HS:=hD hs
 clear hl hx hp hs
 go_enter func231,ntmps231
 go_wp2_with fail
 go_loopw [3,11] (fun v i u=> ∃k:Nat,k≤n∧i= .int .i64 (k:Int)∧v= .int .i64 ((xss.take k).flatten.length:Int)∧u=w) (fun _ i _=>n- (intOf i).toNat)
 case atStart=>exact⟨0,by omega,rfl,rfl,rfl⟩
 case round=>
  obtain⟨k,hk,rfl,rfl,hU⟩:=hrel
  obtain rfl:=hU.symm
  by_cases hlt:k<n
  · have hg:=gE (by rw[HL.out];exact hlt:k<xss.length)
    have hst:=congrArg List.length (j8U xss k _ hg)
    rw[lA]at hst
    obtain⟨b,o,a,c1,rfl,hb,hc,hy,hr⟩:=HX.out k _ hg
    have hle:=j5G xss (k+1)
    have h6:=HS.out
    generalize xss[k]'(by rw[HL.out];exact hlt)=ys at *
    have HST:=hD hst
    generalize (xss.take k).flatten.length=p1 at *
    generalize ys.length=m at *
    have hadd:wrap64 ((p1:Int)+(m:Int))=(p1:Int)+(m:Int):=by unfold wrap64;omega
    have hneg: ¬((p1:Int)+(m:Int)<0):=by omega
    have hk2:(k:Int)<(n:Int):=by omega
    clear hg hy hr hle h6 hst
    go_wp2
    go_roundw
    case rel=>exact⟨k+1,by omega,by go_num,by rw[HST.out,hadd,Int.natCast_add],trivial⟩
    case measure=>simp[intOf];omega
  · obtain rfl:k=n:=by omega
    have hT:xss.take k=xss:=tL (by rw[HL.out];exact Nat.le_refl _)
    rw[hT]
    obtain⟨q,hq⟩: ∃q,xss.flatten.length=q:=⟨_,rfl⟩
    have hq1:=HP.out
    have hq2:=HS.out
    rw[hq]at hq1 hq2 ⊢
    have HQ:=hD hq
    clear hq hT
    go_wp2_with fail
    refine(q5P q w hq1 hq2).mono ?_
    rintro e w2 ⟨⟨v2,rfl,hv2⟩,hb2⟩
    have HO:=hD hv2
    have HB:=hD hb2
    clear hv2 hb2
    go_wp2_with fail
    go_loopw [6,27] (fun v i u=> ∃j:Nat,j≤k∧i= .int .i64 (j:Int)∧Hid (OwnCo u w.heap.size v (xss.take j).flatten∧Below w.heap.size w u)) (fun _ i _=>k- (intOf i).toNat)
    case atStart=>exact⟨0,by omega,rfl,HO.out,HB.out⟩
    case round=>
     obtain⟨j,hj,rfl,hinv⟩:=hrel
     obtain⟨hO,hB⟩:=hinv.out
     clear hinv
     by_cases hjt:j<k
     · have hg:=gE (by rw[HL.out];exact hjt:j<xss.length)
       have hst:=hD (j8U xss j _ hg)
       obtain⟨b,o,a,c1,rfl,hb,hc,hy,hr⟩:=HX.out j _ hg
       have hle:=j5G xss (j+1)
       rw[hst.out,lA]at hle
       have h6:=HS.out
       generalize xss[j]'(by rw[HL.out];exact hjt)=ys at *
       obtain⟨v',w',hrun,hown',hb2⟩:=OwnCo.append (c:=c1) hO (CellsIn.below hy hB) hr (by omega) hB.size
       have hcell:=(hB.cell (p:=⟨b,o+j,none⟩) hb).trans hc
       have HN:Hid (OwnCo w' w.heap.size v' (xss.take (j+1)).flatten∧Below w.heap.size w w'):=⟨by rw[hst.out];exact hown',hB.trans hb2⟩
       have HRUN:=hD hrun
       have hj2:(j:Int)<(k:Int):=by omega
       clear hg hc hy hr hrun hown' hb2 hle h6 hO hB hst
       generalize ys.length=m at *
       go_wp2_with (at_builtin;(with_reducible refine Lib.wpList_append_run _ (o:=⟨some 33,_,_,_,_,_⟩) ?_ (.tmp 31) (.tmp 32) 39 39 ?_ _ _ ?_ ?_ _ _ (HRUN.out _) ?_);(rfl);(rfl);(rfl);(rfl))
       go_roundw
       case rel=>exact⟨j+1,by omega,by go_num,HN⟩
       case measure=>simp[intOf];omega
     · obtain rfl:j=k:=by omega
       have hge: ¬(j:Int)<(j:Int):=by omega
       have hT:xss.take j=xss:=tL (by rw[HL.out];exact Nat.le_refl _)
       rw[hT]at hO
       have HO2:=hD hO
       have HB2:=hD hB
       clear hO hB hT
       go_wp2
       go_ret
       exact⟨⟨_,rfl,HO2.out⟩,HB2.out⟩
section
variable {st e:TypeId}{bytes:Nat}{zero:Value}
theorem q1L(T:ElemT st e 1 bytes zero)(x y z:Value)(hx:x.cells= #[x])(hy:y.cells= #[y])(hz:z.cells= #[z])(u:World):(Instr.buildSlice st 3 #[(0,x),(1,y),(2,z)]).run Tryz.prog u= .ok (.slice (some ⟨u.heap.size,0,none⟩) 3 3) (u.alloc (.cells #[x,y,z] e)):=by
 cases hq:Tryz.prog.info? e with
 |none=>have:=T.info;rw[hq]at this;cases this
 | some i=>
  have hi:=T.info
  rw[hq]at hi
  simp only[Option.map_some,Option.some.injEq,Prod.mk.injEq]at hi
  obtain⟨k1,k2,k3⟩:=hi
  have hsm:=T.small
  have hpz:=T.pos
  refine run_buildSlice u st e 3 _ #[x,y,z] i zero T.und hq k1 (by omega) (by omega) ?_
  rw[k2]
  have hf:=Great.fill_whole (s:=1) T.pos [x,y,z] ((Array.range (3*1)).map (zero.cells[· % zero.cells.size]!)) (by
   intro v hv
   simp only[List.mem_cons,List.not_mem_nil,or_false]at hv
   rcases hv with rfl|rfl|rfl
   · rw[hx];rfl
   · rw[hy];rfl
   · rw[hz];rfl) (by simp)
  simpa [hx,hy,hz] using hf
def q6M(e:TypeId)(x y z:Value)(v:Value)(N:j0e):Prop:= ∃g,v= .slice (some ⟨g,0,none⟩) 3 3∧N=[(g,oc #[x,y,z] e)]
theorem q2A(T:ElemT st e 1 bytes zero){x y z:Value}(hx:x.cells= #[x])(hy:y.cells= #[y])(hz:z.cells= #[z]){a:Act}{dst:Option Tmp}{p q r:Operand}{ty:TypeId}{pos:String}{after:Array Edge}{gd:Option (Nat × Bool)}(hp:a.eval p=x)(hq:a.eval q=y)(hr:a.eval r=z)(u:World):
  FAt Tryz.prog ⟨dst, .buildSlice st 3 #[(0,p),(1,q),(2,r)],ty,pos,after,gd⟩ a (q6M e x y z) u:=by
 unfold FAt execOp
 simp only[List.map_toArray,List.map_cons,List.map_nil,hp,hq,hr,Sem.run_bind,Sem.run_pure,q1L T x y z hx hy hz u,Result.andThen_ok]
 refine⟨(Below.refl _ _).alloc (Nat.le_refl _) _,_,⟨_,rfl,rfl⟩,fun y hy=>?_⟩
 cases mS.1 hy
 exact⟨Nat.le_refl _,heap_alloc_new u _⟩
end
theorem x4F:ElemT 242 39 1 24 (.slice none 0 0):=⟨underlying242,by kernel_rfl,by decide+kernel,by decide,by decide,by decide⟩
theorem x2v{w:World}{g n1 n2 n3 c1 c2 c3:Nat}{a1 a2 a3:Option Addr}{p1 p2 p3:List CoinR}(hg:w.heap[g]?=some (.cells #[.slice a1 n1 c1, .slice a2 n2 c2, .slice a3 n3 c3] 39 (0,0)))
  (l1:p1.length=n1) (l2:p2.length=n2) (l3:p3.length=n3) (h1:CoinsIn w w.heap.size a1 p1) (h2:CoinsIn w w.heap.size a2 p2) (h3:CoinsIn w w.heap.size a3 p3) (o1:okP p1) (o2:okP p2) (o3:okP p3):x1n w w.heap.size (some ⟨g,0,none⟩) [p1,p2,p3]:=by
 subst l1 l2 l3
 have hlt:=Row.lt (t:=39) hg
 intro k ps hk
 match k,hk with
 |0,hk=>cases hk;exact⟨g,0,a1,c1,rfl,hlt,cell_of_row w g 0 _ _ _ hg,h1,o1⟩
 |1,hk=>cases hk;exact⟨g,0,a2,c2,rfl,hlt,cell_of_row w g 1 _ _ _ hg,h2,o2⟩
 |2,hk=>cases hk;exact⟨g,0,a3,c3,rfl,hlt,cell_of_row w g 2 _ _ _ hg,h3,o3⟩
 |k+3,hk=>simp at hk
theorem j9Z(p:List CoinR)(A:Option Addr)(n c:Nat)(id:List Int)(os:List OutR)(A2:Option Addr)(n2 c2:Nat)(w:World)(hl:p.length=n)(hn:n≤1000)(hnc:n≤c)(hcm:c≤maxLen)(hI:okP p)(hup:upP p)(hA:CoinsIn w w.heap.size A p)(hid:j3C id)(hth:j19 p id=false)(hl2:os.length=n2)(h2:n2≤1000)(h20:0<n2)(ho:okOuts os)(hA2:OutsIn w w.heap.size A2 os):
  Calls Tryz.prog 215 #[.slice A n c,idv id, .slice A2 n2 c2] w fun e w'=>(∃v,e= .returned v∧w'.ownsRow w.heap.size 137 35 v (j1y p (j18 id 0 os)).length ((j1y p (j18 id 0 os)).map coC).flatten)∧Below w.heap.size w w':=by
 have HMP:=hD (q4F hI.id hid hup hth os)
 have hkn:=j4u p ⟨id,0⟩
 have HL:=hD hl
 have HPP:=hD hI
 have HAA:=hD hA
 have HN63:Hid (n<9223372036854775808):=by show _<_;unfold maxLen at hcm;omega
 have HNC:=hD (And.intro hnc hcm)
 have HN1:Hid (n≤1000):=hn
 have HID:=hD hid
 have HIL:Hid (id.length=32):=hid.1
 have HL2:=hD hl2
 have HN2:Hid (n2≤1000):=h2
 have HN20:Hid (0<n2):=h20
 have HM63:Hid (n2<9223372036854775808):=by show _<_;omega
 have HOO:=hD ho
 have HA2:Hid (OutsIn w w.heap.size A2 os):=hA2
 have HPL:Hid (Rb w 230 #[.slice A n c,inV ⟨id,0⟩] (.int .i64 (j00 p ⟨id,0⟩:Int))):=fun u hu=>j6g p A n c ⟨id,0⟩ u hl (by omega) hI hup (CellsIn.up hA hu) ⟨hid,show I64 0 by unfold I64;omega⟩
 have E1:Hid (EnvX w (w.alloc (.cells (j0d 32 id) 26)) [(w.heap.size,oc (j0d 32 id) 26)]):=(EnvX.start w).new _
 obtain⟨at',hat⟩: ∃k,j00 p ⟨id,0⟩=k:=⟨_,rfl⟩
 rw[hat]at HPL HMP hkn
 rw[hl]at hkn
 have HAT:Hid (at'≤n):=hkn
 clear hl hn hnc hcm hI hup hA hid hth hl2 h2 h20 ho hA2 hkn hat
 unfold idv
 go_enter func215,ntmps215
 go_upto_region 1 with (fail)
 generalize w.alloc (.cells (j0d 32 id) 26)=W at *
 refine rgQ [0,1] [2,3] E1 rfl fun hw=>?_
 refine qo rfl hw ?_
 refine qv rfl (fun u hu=>j0l underlying75 HM63.out u rfl) hw ?_
 refine j0b<|(j0k (R:=fun v N=> ∃g cur,v= .slice (some ⟨g,0,none⟩) 0 n2∧N=[(g,oc cur 137)]∧cur.size=n2*35) (M0:=[(w.heap.size,oc (j0d 32 id) 26)]) rfl rfl (fun _ h=>h) (fun u hu=>q7N elCo (by have:=HN2.out;omega) rfl u) ?_)
 rintro _ _ ⟨gm,cm,rfl,rfl,hcm⟩ hf he2;intro K' hK';go_big_quiet_op;go_big_quiet_on
 have HCM:=hD hcm
 have HGM:=hD (hf _ (mS.2 rfl))
 clear hcm
 clear hf
 refine phE [3] [] he2 fun hw=>?_
 refine qo rfl hw ?_
 refine enP fun u5 EX4=>?_
 go_upto_region 2 with (fail)
 refine rgQ [0,1,2] [] EX4 rfl fun hw=>?_
 refine qo rfl hw ?_
 refine qv rfl (fun u hu=>j0l underlying75 HM63.out u rfl) hw ?_
 refine qo rfl hw ?_
 refine enP fun u8 EX7=>?_
 have HINV:Hid (∃N,FreshR 137 35 0 ((j18 id 0 (os.take 0)).map coC).flatten (.slice (some ⟨gm,0,none⟩) 0 n2) N∧j01 w N [(w.heap.size,oc (j0d 32 id) 26)]∧EnvX w u8 (N++[(w.heap.size,oc (j0d 32 id) 26)])):=⟨[(gm,oc cm 137)], .inl ⟨gm,n2,cm,rfl,rfl,Nat.zero_le _,by have:=HN2.out;unfold maxLen;omega,HCM.out,by simp[j18]⟩,(fun y hy=>by cases mS.1 hy;exact HGM.out),EX7.out⟩
 clear EX7 E1 HCM HGM
 go_upto_region 3 with (fail)
 go_loopw [7,16] (fun v iv u=> ∃i:Nat,i≤n2∧iv= .int .i64 (i:Int)∧Hid (∃N,FreshR 137 35 i ((j18 id 0 (os.take i)).map coC).flatten v N∧j01 w N [(w.heap.size,oc (j0d 32 id) 26)]∧EnvX w u (N++[(w.heap.size,oc (j0d 32 id) 26)]))) (fun _ iv _=>n2- (intOf iv).toNat)
 case atStart=>exact⟨0,by omega,rfl,HINV⟩
 case round=>
  obtain⟨i,hi,rfl,hinv⟩:=hrel
  obtain⟨N,hF,hfr,hE⟩:=hinv.out
  have EK:=hD hE
  have HF:=hD hF
  have HFR:=hD hfr
  clear hinv HINV hE hF hfr
  by_cases hlt:i<n2
  · have C3:Hid (decide ((i:Int)<(n2:Int))=true):=decide_eq_true (by omega)
    have HI:=hD hlt
    have hil:i<os.length:=by rw[HL2.out];exact hlt
    obtain⟨ad,rfl,-,hld⟩:=HA2.out.loads hil
    have HLD:=hD hld
    have hoo:q0l (os.getD i j1d):=HOO.out.get hil
    have hsn:=q04 id (os.take i) 0 (os.getD i j1d)
    rw[←j3o j1d hil,List.length_take,Nat.min_eq_left (by omega),Int.zero_add]at hsn
    have hnl:(j18 id 0 (os.take i)).length=i:=by rw[j5u,List.length_take,Nat.min_eq_left (by omega)]
    have hnk:okP (j18 id 0 (os.take i)):=j9u HID.out (fun o ho=>HOO.out o (List.mem_of_mem_take ho)) (by rw[List.length_take];have:=HN2.out;omega)
    obtain⟨y,hy⟩: ∃y,os.getD i j1d=y:=⟨_,rfl⟩
    rw[hy]at HLD hoo hsn
    have HSN:=hD hsn
    have HCO:Hid (j4I ⟨id,i,y.v,y.tw⟩):=HIL.out
    have HLI:Hid (j3e ⟨id,i⟩):=HIL.out
    have HSL:Hid (((j18 id 0 (os.take i)).map coC).flatten.length=i*35):=by show _=_;rw[j3Y hnk.lens,hnl]
    have HXE:Hid (((j18 id 0 (os.take (i+1))).map coC).flatten=((j18 id 0 (os.take i)).map coC).flatten++coC ⟨id,i,y.v,y.tw⟩):=by
     show _=_
     rw[hsn,List.map_append,List.flatten_append]
     simp
    clear hlt hil hld hoo hsn hnl hnk hy
    generalize ((j18 id 0 (os.take i)).map coC).flatten=xs at *
    go_upto_region 3 with (fail)
    refine rgQ [0] [] EK rfl fun hw=>?_
    refine qv rfl (fun u hu=>j0o u C3.out rfl rfl) hw ?_
    refine enP fun u23 EX22=>?_
    go_upto_region 4 with (fail)
    refine rgQ [0,1,2] [3,4,5] EX22 rfl fun hw=>?_
    refine qo rfl hw ?_
    refine qv rfl (fun u hu=>j0h underlying75 aggOut.size HI.out u rfl rfl) hw ?_
    refine qv rfl (fun u hu=>j0a u (HLD.out u (nl hu)).1 rfl) hw ?_
    refine j0b<|qn rfl (j9d _) fun go HG6 he25=>?_
    refine phE [4] [5] he25 fun hw=>?_
    refine qo rfl hw ?_
    refine j0b<|(sh rfl HG6 (j9a _ (j24 _)) ((j24 _).trans (j24 _).symm) (j6W _) ?_)
    refine fun _=>enL fun u29 EX28=>?_
    go_upto_region 5 with (fail)
    refine rgQ [0,1,2,3,4,5] [6,7,8] EX28 rfl fun hw=>?_
    refine qo rfl hw ?_
    refine qv rfl (fun u hu=>j0a u (j2q hu (mT (mR mH)) HIL.out) rfl) hw ?_
    refine qo rfl hw ?_
    refine qv (v:=inV ⟨id,i⟩) rfl (fun u hu=>j0p u (q9w HIL.out)) hw ?_
    refine ql rfl mH trivial hw ?_
    refine qv (v:= .agg (coC ⟨id,i,y.v,y.tw⟩).toArray) rfl (fun u hu=>j0p u (q8U HLI.out)) hw ?_
    refine j0b<|(j0k (R:=j2R 137 (coC ⟨id,i,y.v,y.tw⟩)) (M0:=((go,oc (j4r y) 135)::(N++((w.heap.size,oc (j0d 32 id) 26)::[])))) rfl rfl (fun _ h=>h) (fun u hu=>j1q elCo (j7H HCO.out) (j9r _) rfl u) ?_)
    rintro _ _ ⟨g8,rfl,rfl⟩ hf he31;intro K' hK';go_big_quiet_op;go_big_quiet_on
    clear hf
    change j1E _ _ _ _ _ _ ((g8,oc (coC ⟨id,i,y.v,y.tw⟩).toArray 137)::((go,oc (j4r y) 135)::(N++((w.heap.size,oc (j0d 32 id) 26)::[]))))
    refine(j03 (gd:=none) (R:=j1N w 137 35 (i+1) (xs++coC ⟨id,i,y.v,y.tw⟩) [(w.heap.size,oc (j0d 32 id) 26)]) rfl rfl rfl rfl (fun u hu=>q7z elCo (m:=1) (c:=1) [(w.heap.size,oc (j0d 32 id) 26)] hu HSL.out (by rw[Nat.one_mul];exact j7H HCO.out) (j9r _) HF.out (fun y hy=>⟨mT (mT (mL hy)),(HFR.out y hy).1⟩) mH (fun z hz=>⟨mT (mT (mR hz)),fun y hy=>(HFR.out y hy).2 z hz⟩) (by have:=HI.out;have:=HN2.out;omega) rfl rfl) ?_)
    rintro x9 M' ⟨N9,rfl,hF9,hn9⟩ he32;intro K' hK';go_big_quiet_op;go_big_quiet_on
    have HF9:=hD hF9
    have HN9:=hD hn9
    clear hF9 hn9
    refine phE [8] [] he32 fun hw=>?_
    refine qo rfl hw ?_
    refine enP fun u35 EX34=>?_
    have HNX:Hid (∃N,FreshR 137 35 (i+1) ((j18 id 0 (os.take (i+1))).map coC).flatten x9 N∧j01 w N [(w.heap.size,oc (j0d 32 id) 26)]∧EnvX w u35 (N++[(w.heap.size,oc (j0d 32 id) 26)])):=⟨N9,by rw[HXE.out];exact HF9.out,HN9.out,EX34.out⟩
    have hii:=HI.out
    have hn:=HN2.out
    go_wp2
    go_roundw
    case rel=>exact⟨i+1,by omega,by go_num,HNX⟩
    case measure=>simp[intOf];omega
  · obtain rfl:i=n2:=by omega
    have C3:Hid (decide ((i:Int)<(i:Int))=false):=decide_eq_false (by omega)
    rw[tL (by rw[HL2.out];exact Nat.le_refl _)]at HF
    obtain⟨A3,c3,rfl,hc1,hc2⟩:=FreshR.formC HF.out
    have hnk:okP (j18 id 0 os):=j9u HID.out (fun o ho=>HOO.out o ho) (by rw[HL2.out];exact HN2.out)
    have hnl:(j18 id 0 os).length=i:=by rw[j5u,HL2.out]
    have HNK:=hD hnk
    have HNL:=hD hnl
    have HLT:Hid ((p.take at').length=at'∧(p.drop at').length=n- at'):=⟨by rw[List.length_take,HL.out];have:=HAT.out;omega,by rw[List.length_drop,HL.out]⟩
    have HFLT:Hid (0<[p.take at',j18 id 0 os,p.drop at'].flatten.length∧[p.take at',j18 id 0 os,p.drop at'].flatten.length≤1000000):=by
     have h1:=HLT.out.1
     have h2:=HLT.out.2
     have h3:=HN1.out
     have h4:=HN2.out
     have h5:=HN20.out
     have h6:=HAT.out
     have h:[p.take at',j18 id 0 os,p.drop at'].flatten.length=at'+(i+(n- at')):=by simp only[List.flatten_cons,List.flatten_nil,lA,List.length_nil,h1,h2,hnl,Nat.add_zero]
     rw[show _=_ from h]
     exact⟨by omega,by omega⟩
    have HEQ:Hid ([p.take at',j18 id 0 os,p.drop at'].flatten=j1y p (j18 id 0 os)):=by
     show _=_
     rw[HMP.out]
     simp
    have HCC:Hid (∀u g,EnvX w u (N++[])→u.heap[g]?=some (.cells #[.slice A at' c, .slice A3 i c3, .slice (j5d 35 A at' c) (n- at') (c- at')] 39 (0,0))→Calls Tryz.prog 231 #[.slice (some ⟨g,0,none⟩) 3 3] u fun e w'=>(∃v,e= .returned v∧w'.ownsRow u.heap.size 137 35 v (j1y p (j18 id 0 os)).length ((j1y p (j18 id 0 os)).map coC).flatten)∧Below u.heap.size u w'):=fun u g hu hg=>by
     have hb:=EnvX.bel hu
     have hcp:CoinsIn u u.heap.size A p:=CellsIn.up HAA.out hb
     have h:=q2h (some ⟨g,0,none⟩) 3 3 [p.take at',j18 id 0 os,p.drop at'] u rfl (x2v hg HLT.out.1 HNL.out HLT.out.2 (CoinsIn.first hcp at') (j2k (HF.out.own (w:=u) (B:=0) (by rw[j3Y HNK.out.lens,HNL.out]) (fun y hy=>⟨Nat.zero_le _,hu.box _ _ (mL hy)⟩))) (CoinsIn.rest hcp HPP.out.lens (by rw[HL.out];exact HAT.out) (by rw[HL.out];exact HNC.out.1)) (HPP.out.take _) HNK.out (HPP.out.drop _)) (by omega) HFLT.out.1 HFLT.out.2
     rw[HEQ.out]at h
     exact h
    have HATC:Hid (at'≤c):=Nat.le_trans HAT.out HNC.out.1
    clear hlt hc1 hc2 hnk hnl
    go_upto_region 3 with (fail)
    refine rgQ [0] [] EK rfl fun hw=>?_
    refine qv rfl (fun u hu=>j0o u C3.out rfl rfl) hw ?_
    refine enP fun u303 EX302=>?_
    go_upto_region 7 with (fail)
    refine rgQ [0,1,2,3,4] [] EX302 rfl fun hw=>?_
    refine qo rfl hw ?_
    refine qv rfl (fun u hu=>j0a u (j2q hu (mR mH) HIL.out) rfl) hw ?_
    refine qv (v:=inV ⟨id,0⟩) rfl (fun u hu=>j0p u (j5R HIL.out)) hw ?_
    refine qc rfl func230 (fun u hu=>HPL.out u (EnvX.bel hu)) hw ?_
    refine qo rfl hw ?_
    refine enP fun u306 EX305=>?_
    go_upto_region 8 with (fail)
    refine rgK [0,1,2,3,4,5,6] 3 EX305 rfl fun hw=>?_
    refine qw 2 hw ?_
    refine qv (v:= .slice A at' c) rfl (fun u hu=>j43 elCo u HATC.out rfl rfl) hw ?_
    refine qw 3 hw ?_
    refine qv (v:= .slice (j5d 35 A at' c) (n- at') (c- at')) rfl (fun u hu=>j60 elCo u HAT.out rfl rfl) hw ?_
    refine j0b<|aO 7 (j0k (R:=q6M 39 (.slice A at' c) (.slice A3 i c3) (.slice (j5d 35 A at' c) (n- at') (c- at'))) (M0:=(N++((w.heap.size,oc (j0d 32 id) 26)::[]))) rfl rfl (fun _ h=>h) (fun u hu=>q2A x4F rfl rfl rfl rfl rfl rfl u) ?_)
    rintro _ _ ⟨g3,rfl,rfl⟩ hf he308;intro K' hK';go_big_quiet_op;go_big_quiet_on
    clear hf
    change j1s _ _ _ _ _ _ _ _ ((g3,oc #[.slice A at' c, .slice A3 i c3, .slice (j5d 35 A at' c) (n- at') (c- at')] 39)::(N++((w.heap.size,oc (j0d 32 id) 26)::[])))
    refine aO 8 (qr (R:=FreshR 137 35 (j1y p (j18 id 0 os)).length ((j1y p (j18 id 0 os)).map coC).flatten) rfl func231 (fun u hu=>j0i (HCC.out u g3 (EnvX.sub hu (fun y hy=>mT (mL (by rwa[List.append_nil]at hy)))) (hu.box _ _ mH))) ?_)
    rintro x9 N9 hF hf he309
    have HF9:=hD (And.intro hF hf)
    clear hF
    clear hf
    refine phF [9] 0 rfl he309 fun hw=>?_
    refine qo rfl hw ?_
    refine eH fun u312 EX311=>?_
    have HBE:=hD (EnvX.bel EX311.out)
    have HMO:Hid (okP (j1y p (j18 id 0 os))):=j84 HPP.out HNK.out
    have HOW:=hD (HF9.out.1.own (w:=u312) (B:=w.heap.size) (j3Y HMO.out.lens) (fun y hy=>⟨(HF9.out.2 y hy).1,EnvX.box EX311.out _ _ (mL hy)⟩))
    go_wp2
    go_returns
    exact⟨⟨_,rfl,HOW.out⟩,HBE.out⟩
theorem q0g{α:Type}{d:α}{l q:List α}{k:Nat}(h:l.take k=q.take k)(h1:k<l.length)(h2:k<q.length)(e:l.getD k d=q.getD k d):l.take (k+1)=q.take (k+1):=by
 rw[List.take_add_one,List.take_add_one,h,gE h1,gE h2]
 rw[gD,gD,gE h1,gE h2]at e
 simp only[Option.getD_some]at e
 rw[e]
theorem q7E (l q:List InR) (A A':Option Addr) (n c m c':Nat) (w:World) (hl:l.length=n) (hq:q.length=m) (hnc:n≤c) (hc:c≤maxLen) (hmc:m≤c') (hc':c'≤maxLen) (hI:okIns l) (hJ:okIns q) (hA:InsIn w w.heap.size A l) (hB:InsIn w w.heap.size A' q):
   Rz 134 #[.slice A n c, .slice A' m c'] w (.bool (decide (l=q))):=by
 unfold Rz
 unfold maxLen at hc hc'
 have HL:=hD hl
 have HQ:=hD hq
 have HI:=hD (And.intro hI hA)
 have HJ:=hD (And.intro hJ hB)
 clear hI hA hJ hB hl hq
 by_cases hnm:n=m
 · subst hnm
   go_enter func134,ntmps134
   go_upto_region 4 with (fail)
   go_loopw [13] (fun i u=> ∃k:Nat,k≤n∧i= .int .i64 k∧Below w.heap.size w u∧Hid (l.take k=q.take k)) (fun i _=>n- (intOf i).toNat)
   case atStart=>exact⟨0,by omega,rfl,Below.refl _ _,rfl⟩
   case round=>
    obtain⟨k,hk,rfl,hbl,hsame⟩:=hrel
    by_cases hlt:k<n
    · have hk2:(k:Int)<(n:Int):=by omega
      obtain⟨a1,rfl,-,h1⟩:=HI.out.2.loads HI.out.1 (k:=k) (by rw[HL.out];exact hlt)
      obtain⟨a2,rfl,-,h2⟩:=HJ.out.2.loads HJ.out.1 (k:=k) (by rw[HQ.out];exact hlt)
      have H1:=hD h1
      have H2:=hD h2
      have E1:Hid (EnvX w wr []):=⟨hbl,fun _ _ h=>by cases h⟩
      have HX:=hD (HI.out.1.get (i:=k) (by rw[HL.out];exact hlt))
      have HY:=hD (HJ.out.1.get (i:=k) (by rw[HQ.out];exact hlt))
      have HST:=hD (q0g (d:=j14) hsame.out (by rw[HL.out];exact hlt) (by rw[HQ.out];exact hlt))
      have HNE:Hid (l.getD k j14≠q.getD k j14→l≠q):=fun h e=>h (by rw[e])
      clear h1 h2 hsame hbl
      generalize l.getD k j14=x at *
      generalize q.getD k j14=y at *
      go_upto_region 6 with (fail)
      refine rgK [0,1,2,3,4,5,6,7,8] 0 E1 rfl fun hw=>?_
      refine qw 3 hw ?_
      refine qv rfl (fun u hu=>j0a u (H1.out u (nl hu)).1 rfl) hw ?_
      refine qw 3 hw ?_
      refine qv rfl (fun u hu=>j0a u (H2.out u (nl hu)).1 rfl) hw ?_
      refine qv rfl (fun u hu=>j5D HX.out.len HY.out.len rfl u rfl rfl) hw ?_
      refine eH fun u3 EX2=>?_
      by_cases hxy:x=y
      · have hb:eqI x y=true:=by simp[eqI,hxy]
        rw[hb]
        go_wp2
        go_roundw
        case rel=>exact⟨k+1,by omega,by go_num,EnvX.bel EX2.out,HST.out hxy⟩
        case measure=>simp[intOf];omega
      · have hb:eqI x y=false:=by simp[eqI,hxy]
        have HR:Hid (decide (l=q)=false):=by
         show _=_
         simp[HNE.out hxy]
        rw[hb]
        go_wp2
        go_ret
        exact⟨by rw[HR.out];rfl,EnvX.bel EX2.out⟩
    · obtain rfl:k=n:=by omega
      have HR:Hid (decide (l=q)=true):=by
        have h:=hsame.out
        rw[tL (by rw[HL.out];exact Nat.le_refl _),tL (by rw[HQ.out];exact Nat.le_refl _)]at h
        show _=_
        simp[h]
      clear hsame
      go_wp2
      go_ret
      exact⟨by rw[HR.out];rfl,hbl⟩
 · have hne: ¬(n:Int)=(m:Int):=by omega
   have HR:Hid (decide (l=q)=false):=by
    show _=_
    have:l≠q:=fun e=>hnm (by rw[←HL.out,←HQ.out,e])
    simp[this]
   go_enter func134,ntmps134
   go_wp2
   go_ret
   exact⟨by rw[HR.out];rfl,Below.refl _ _⟩
theorem q37 (l q:List OutR) (A A':Option Addr) (n c m c':Nat) (w:World) (hl:l.length=n) (hq:q.length=m) (hnc:n≤c) (hc:c≤maxLen) (hmc:m≤c') (hc':c'≤maxLen) (hI:okOuts l) (hJ:okOuts q) (hA:OutsIn w w.heap.size A l) (hB:OutsIn w w.heap.size A' q):
   Rz 135 #[.slice A n c, .slice A' m c'] w (.bool (decide (l=q))):=by
 unfold Rz
 unfold maxLen at hc hc'
 have HL:=hD hl
 have HQ:=hD hq
 have HI:=hD (And.intro hI hA)
 have HJ:=hD (And.intro hJ hB)
 clear hI hA hJ hB hl hq
 by_cases hnm:n=m
 · subst hnm
   go_enter func135,ntmps135
   go_upto_region 4 with (fail)
   go_loopw [13] (fun i u=> ∃k:Nat,k≤n∧i= .int .i64 k∧Below w.heap.size w u∧Hid (l.take k=q.take k)) (fun i _=>n- (intOf i).toNat)
   case atStart=>exact⟨0,by omega,rfl,Below.refl _ _,rfl⟩
   case round=>
    obtain⟨k,hk,rfl,hbl,hsame⟩:=hrel
    by_cases hlt:k<n
    · have hk2:(k:Int)<(n:Int):=by omega
      obtain⟨a1,rfl,-,h1⟩:=HI.out.2.loads (k:=k) (by rw[HL.out];exact hlt)
      obtain⟨a2,rfl,-,h2⟩:=HJ.out.2.loads (k:=k) (by rw[HQ.out];exact hlt)
      have H1:=hD h1
      have H2:=hD h2
      have E1:Hid (EnvX w wr []):=⟨hbl,fun _ _ h=>by cases h⟩
      have HX:=hD (HI.out.1.get (i:=k) (by rw[HL.out];exact hlt))
      have HY:=hD (HJ.out.1.get (i:=k) (by rw[HQ.out];exact hlt))
      have HST:=hD (q0g (d:=j1d) hsame.out (by rw[HL.out];exact hlt) (by rw[HQ.out];exact hlt))
      have HNE:Hid (l.getD k j1d≠q.getD k j1d→l≠q):=fun h e=>h (by rw[e])
      clear h1 h2 hsame hbl
      generalize l.getD k j1d=x at *
      generalize q.getD k j1d=y at *
      go_upto_region 6 with (fail)
      refine rgK [0,1,2,3,4,5,6,7,8] 0 E1 rfl fun hw=>?_
      refine qw 3 hw ?_
      refine qv rfl (fun u hu=>j0a u (H1.out u (nl hu)).1 rfl) hw ?_
      refine qw 3 hw ?_
      refine qv rfl (fun u hu=>j0a u (H2.out u (nl hu)).1 rfl) hw ?_
      refine qv rfl (fun u hu=>j7O rfl u rfl rfl) hw ?_
      refine eH fun u3 EX2=>?_
      by_cases hxy:x=y
      · have hb:eqO x y=true:=by simp[eqO,hxy]
        rw[hb]
        go_wp2
        go_roundw
        case rel=>exact⟨k+1,by omega,by go_num,EnvX.bel EX2.out,HST.out hxy⟩
        case measure=>simp[intOf];omega
      · have hb:eqO x y=false:=by simp[eqO,hxy]
        have HR:Hid (decide (l=q)=false):=by
         show _=_
         simp[HNE.out hxy]
        rw[hb]
        go_wp2
        go_ret
        exact⟨by rw[HR.out];rfl,EnvX.bel EX2.out⟩
    · obtain rfl:k=n:=by omega
      have HR:Hid (decide (l=q)=true):=by
        have h:=hsame.out
        rw[tL (by rw[HL.out];exact Nat.le_refl _),tL (by rw[HQ.out];exact Nat.le_refl _)]at h
        show _=_
        simp[h]
      clear hsame
      go_wp2
      go_ret
      exact⟨by rw[HR.out];rfl,hbl⟩
 · have hne: ¬(n:Int)=(m:Int):=by omega
   have HR:Hid (decide (l=q)=false):=by
    show _=_
    have:l≠q:=fun e=>hnm (by rw[←HL.out,←HQ.out,e])
    simp[this]
   go_enter func135,ntmps135
   go_wp2
   go_ret
   exact⟨by rw[HR.out];rfl,Below.refl _ _⟩
def j5e:List InR→InR→Int
  |[],_=> -1
  |x::r,id=>if x=id then 0 else if 0≤j5e r id then j5e r id+1 else-1
theorem q1d: ∀(l:List InR)(id:InR)(k:Nat),k<l.length→(∀j,j<k→l.getD j j14≠id)→l.getD k j14=id→j5e l id=(k:Int)
 |[],id,k,hk,_,_=>by cases hk
 |x::r,id,0,_,_,h=>by
  unfold j5e
  rw[if_pos (show x=id from h)]
  rfl
 |x::r,id,k+1,hk,hn,h=>by
  unfold j5e
  have hr:=q1d r id k (by simpa using hk) (fun j hj=>hn (j+1) (by omega)) h
  rw[if_neg (show¬x=id from hn 0 (by omega)),hr,if_pos (by omega)]
  rfl
theorem j8r: ∀(l:List InR)(id:InR),(∀j,j<l.length→l.getD j j14≠id)→j5e l id= -1
 |[],id,_=>rfl
 |x::r,id,hn=>by
  unfold j5e
  have hr:=j8r r id (fun j hj=>hn (j+1) (by simpa using hj))
  rw[if_neg (show¬x=id from hn 0 (by simp)),hr,if_neg (by decide)]
theorem j91: ∀(l:List InR)(id:InR),0≤j5e l id↔id∈l
 |[],id=>⟨fun h=>absurd (show (0:Int)≤ -1 from h) (by decide),fun h=>by cases h⟩
 |x::r,id=>by
  unfold j5e
  by_cases hx:x=id
  · rw[if_pos hx]
    exact⟨fun _=>by rw[hx];exact List.mem_cons_self ..,fun _=>Int.le_refl _⟩
  · rw [if_neg hx]
    have hr:=j91 r id
    by_cases h0:0≤j5e r id
    · rw[if_pos h0]
      exact⟨fun _=>mT (hr.1 h0),fun _=>by omega⟩
    · rw[if_neg h0]
      exact⟨fun h=>absurd h (by decide),fun h=>by
       rcases List.mem_cons.1 h with e|e
       · exact absurd e.symm hx
       · exact absurd (hr.2 e) h0⟩
theorem q1A(l:List InR)(id:InR)(A:Option Addr)(n c:Nat)(w:World)(hl:l.length=n)(hn:n≤1000000)(hI:okIns l)(hA:InsIn w w.heap.size A l)(hid:j3e id):
  Rz 240 #[.slice A n c,inV id] w (.int .i64 (j5e l id)):=by
 unfold Rz
 have HL:=hD hl
 have HIA:=hD (And.intro hI hA)
 have HD:=hD hid
 have E1:Hid (EnvX w (w.alloc (.cells (inA id) 133)) [(w.heap.size,oc (inA id) 133)]):=(EnvX.start w).new _
 clear hl hI hA hid
 unfold inV
 go_enter func240,ntmps240
 go_upto_region 2 with (fail)
 generalize w.alloc (.cells (inA id) 133)=W at *
 go_loopw [8] (fun iv u=> ∃k:Nat,k≤n∧iv= .int .i64 (k:Int)∧Hid ((∀j,j<k→l.getD j j14≠id)∧EnvX w u [(w.heap.size,oc (inA id) 133)])) (fun iv _=>n- (intOf iv).toNat)
 case atStart=>exact⟨0,by omega,rfl,(fun j hj=>by omega),E1.out⟩
 case round=>
  obtain⟨k,hk,rfl,hinv⟩:=hrel
  have HNO:=hD hinv.out.1
  have EK:=hD hinv.out.2
  clear hinv E1
  by_cases hlt:k<n
  · have hlt2:(k:Int)<(n:Int):=by omega
    have hkl:k<l.length:=by rw[HL.out];exact hlt
    obtain⟨ad,rfl,-,hld⟩:=HIA.out.2.loads HIA.out.1 hkl
    have HLD:=hD hld
    have HX:Hid (j3e (l.getD k j14)):=(HIA.out.1.get hkl).len
    have HKN:=hD hlt
    by_cases hx:l.getD k j14=id
    · have HEQ:Hid (eqI id (l.getD k j14)=true):=decide_eq_true hx.symm
      have HR:Hid (j5e l id=(k:Int)):=q1d l id k hkl HNO.out hx
      clear hx hkl hlt hld
      generalize l.getD k j14=x at *
      go_upto_region 4 with (fail)
      refine rgK [0,1,2,3,4,5] 0 EK rfl fun hw=>?_
      refine ql rfl mH HD.out hw ?_
      refine qw 2 hw ?_
      refine qv rfl (fun u hu=>j0h underlying74 aggIn.size HKN.out u rfl rfl) hw ?_
      refine qv rfl (fun u hu=>j0a u (HLD.out u (nl hu)).1 rfl) hw ?_
      refine qv rfl (fun u hu=>q3o HD.out HX.out HEQ.out u rfl rfl) hw ?_
      refine eH fun u53 EX52=>?_
      go_wp2
      go_ret
      exact⟨by rw[HR.out];first|done|rfl,EnvX.bel EX52.out⟩
    · have HEQ:Hid (eqI id (l.getD k j14)=false):=decide_eq_false (fun e=>hx e.symm)
      have HN2:Hid (∀j,j<k+1→l.getD j j14≠id):=fun j hj=>by
       rcases Nat.lt_or_ge j k with h|h
       · exact HNO.out j h
       · rw[show j=k by omega];exact hx
      clear hx hkl hlt hld
      generalize l.getD k j14=x at *
      go_upto_region 4 with (fail)
      refine rgK [0,1,2,3,4,5] 0 EK rfl fun hw=>?_
      refine ql rfl mH HD.out hw ?_
      refine qw 2 hw ?_
      refine qv rfl (fun u hu=>j0h underlying74 aggIn.size HKN.out u rfl rfl) hw ?_
      refine qv rfl (fun u hu=>j0a u (HLD.out u (nl hu)).1 rfl) hw ?_
      refine qv rfl (fun u hu=>q3o HD.out HX.out HEQ.out u rfl rfl) hw ?_
      refine eH fun u53 EX52=>?_
      go_wp2
      go_roundw
      case rel=>exact⟨k+1,by omega,by go_num,HN2.out,EX52.out⟩
      case measure=>simp[intOf];omega
  · obtain rfl:k=n:=by omega
    have hge: ¬(k:Int)<(k:Int):=by omega
    have HR:Hid (j5e l id= -1):=j8r l id (fun j hj=>HNO.out j (by rw[←HL.out];exact hj))
    have HB:=hD (EnvX.bel EK.out)
    clear EK
    go_wp2
    go_ret
    exact⟨by rw[HR.out];first|done|rfl,HB.out⟩
theorem j8i(l:List InR)(id:InR)(A:Option Addr)(n c:Nat)(w:World)(hl:l.length=n)(hn:n≤1000000)(hI:okIns l)(hA:InsIn w w.heap.size A l)(hid:j3e id):
  Rz 234 #[.slice A n c,inV id] w (.bool (decide (id∈l))):=by
 unfold Rz
 have HIX:Hid (Rb w 240 #[.slice A n c,inV id] (.int .i64 (j5e l id))):=fun u hu=>q1A l id A n c u hl hn hI (hA.up hu) hid
 have HD:=hD hid
 have HB:Hid (decide (0≤j5e l id)=decide (id∈l)):=decide_eq_decide.2 (j91 l id)
 have E1:Hid (EnvX w (w.alloc (.cells (inA id) 133)) [(w.heap.size,oc (inA id) 133)]):=(EnvX.start w).new _
 generalize j5e l id=q at *
 clear hl hI hA hid
 unfold inV
 go_enter func234,ntmps234
 go_upto_region 1 with (fail)
 generalize w.alloc (.cells (inA id) 133)=W at *
 refine rgQ [0,1,2,3,4] [] E1 rfl fun hw=>?_
 refine qo rfl hw ?_
 refine ql rfl mH HD.out hw ?_
 refine qc rfl func240 (fun u hu=>HIX.out u (EnvX.bel hu)) hw ?_
 refine qv rfl (fun u hu=>q6y u HB.out rfl rfl) hw ?_
 refine qo rfl hw ?_
 refine enP fun u3 EX2=>?_
 go_wp2
 go_ret
 exact⟨rfl,EnvX.bel EX2.out⟩
def j2r(l:List InR):Bool:=decide (l.length≤3∧(∀x∈l,q1a x=true)∧l.Nodup)
def j1I(l:List OutR):Bool:=decide (1≤l.length∧l.length≤3∧ ∀o∈l,j3E o=true)
theorem q8y(r:TxR):j4z r=(j2r r.ins&& j1I r.outs):=by
 unfold j4z j2r j1I
 rw[←Bool.decide_and]
 exact decide_eq_decide.2 ⟨fun⟨a,b,c,d,e,f⟩=>⟨⟨a,d,e⟩,b,c,f⟩,fun⟨⟨a,d,e⟩,b,c,f⟩=>⟨a,b,c,d,e,f⟩⟩
theorem j8x{l:List InR}{i:Nat}(hi:i<l.length)(h:q1a (l.getD i j14)=false):j2r l=false:=by
 unfold j2r
 rw[decide_eq_false_iff_not]
 intro hh
 have hm:l.getD i j14∈l:=by rw[gD,gE hi];exact List.getElem_mem hi
 have:=hh.2.1 _ hm
 rw[h]at this
 cases this
theorem q2j{l:List OutR}{i:Nat}(hi:i<l.length)(h:j3E (l.getD i j1d)=false):j1I l=false:=by
 unfold j1I
 rw[decide_eq_false_iff_not]
 intro hh
 have hm:l.getD i j1d∈l:=by rw[gD,gE hi];exact List.getElem_mem hi
 have:=hh.2.2 _ hm
 rw[h]at this
 cases this
theorem j5S{l:List InR}{i:Nat}{x:InR}(hi:i≤l.length):x∈l.take i↔ ∃k,k<i∧l.getD k j14=x:=by
 constructor
 · intro h
   obtain⟨k,hk,rfl⟩:=List.getElem_of_mem h
   rw[List.length_take]at hk
   exact⟨k,by omega,by rw[List.getElem_take,gD,gE (by omega)];rfl⟩
 · rintro⟨k,hk,rfl⟩
   rw[gD,gE (by omega)]
   exact List.mem_take_iff_getElem.2 ⟨k,by omega,rfl⟩
theorem j9X{l:List InR}{i:Nat}(hi:i<l.length)(h:l.getD i j14∈l.take i):j2r l=false:=by
 unfold j2r
 rw[decide_eq_false_iff_not]
 intro hh
 obtain⟨k,hk,e⟩:=(j5S (by omega)).1 h
 have hn:=(List.pairwise_iff_getElem.1 hh.2.2) k i (by omega) hi hk
 rw[gD,gE (show k<l.length by omega),gD,gE hi]at e
 exact hn e
theorem q2e{l:List InR}(h3:l.length≤3)(h1: ∀j,j<l.length→q1a (l.getD j j14)=true)(h2: ∀j,j<l.length→l.getD j j14∉ l.take j):j2r l=true:=by
 unfold j2r
 refine decide_eq_true ⟨h3,fun x hx=>?_,List.pairwise_iff_getElem.2 fun i j hi hj hij=>?_⟩
 · obtain⟨j,hj,rfl⟩:=List.getElem_of_mem hx
   have:=h1 j hj
   rwa[gD,gE hj]at this
 · intro e
   refine h2 j hj ((j5S (by omega)).2 ⟨i,hij,?_⟩)
   rw[gD,gE hi,gD,gE hj]
   exact e
theorem q0i{l:List OutR}(h3:1≤l.length∧l.length≤3)(h1: ∀j,j<l.length→j3E (l.getD j j1d)=true):j1I l=true:=by
 unfold j1I
 refine decide_eq_true ⟨h3.1,h3.2,fun x hx=>?_⟩
 obtain⟨j,hj,rfl⟩:=List.getElem_of_mem hx
 have:=h1 j hj
 rwa[gD,gE hj]at this
theorem InsIn.first{w:World}{B:Nat}{A:Option Addr}{l:List InR}(h:InsIn w B A l)(k:Nat):InsIn w B A (l.take k):=by
 unfold InsIn at *
 intro hp
 have e:(l.map inC).flatten=((l.take k).map inC).flatten++((l.drop k).map inC).flatten:=by rw[←List.flatten_append,←List.map_append,List.take_append_drop]
 obtain⟨ad,e1,hb,hc⟩:=h (by rw[e,lA];omega)
 refine⟨ad,e1,hb,fun j v hj=>hc j v ?_⟩
 rw[e,List.getElem?_append_left]
 · exact hj
 · rcases Nat.lt_or_ge j ((l.take k).map inC).flatten.length with h'|h'
   · exact h'
   · rw[gN h']at hj;cases hj
theorem q4g (l:List InR) (A:Option Addr) (n c:Nat) (w:World) (hl:l.length=n) (hnc:n≤c) (hcm:c≤maxLen) (hI:okIns l) (hA:InsIn w w.heap.size A l):
   Rz 227 #[.slice A n c] w (.bool (j2r l)):=by
 unfold Rz
 have HN63:Hid (n<9223372036854775808):=by show _<_;unfold maxLen at hcm;omega
 have E1:Hid (EnvX w w []):=EnvX.start w
 have HLN:=hD hl
 by_cases k3:3<n
 · have HF:Hid (j2r l=false):=by
    unfold j2r
    exact decide_eq_false (fun h=>by have:=h.1;omega)
   have D1:Hid (decide ((3:Int)<(n:Int))=true):=decide_eq_true (by omega)
   clear k3 hl hnc hcm hI hA
   go_enter func227,ntmps227
   go_upto_region 1 with (fail)
   refine rgQ [0,1,2] [] E1 rfl fun hw=>?_
   refine qo rfl hw ?_
   refine qv rfl (fun u hu=>j0l underlying74 HN63.out u rfl) hw ?_
   refine qv rfl (fun u hu=>j1m u D1.out rfl rfl) hw ?_
   refine enP fun u3 EX2=>?_
   have HBE:=hD (EnvX.bel EX2.out)
   go_wp2
   go_ret
   exact⟨by rw[HF.out];first|done|rfl,HBE.out⟩
 · have D1:Hid (decide ((3:Int)<(n:Int))=false):=decide_eq_false (by omega)
   have HN3:Hid (n≤3):=by show _≤_;omega
   have HII:=hD hI
   have HAA:=hD hA
   have HNC:=hD hnc
   clear k3 hl hnc hcm hI hA
   go_enter func227,ntmps227
   go_upto_region 1 with (fail)
   refine rgQ [0,1,2] [] E1 rfl fun hw=>?_
   refine qo rfl hw ?_
   refine qv rfl (fun u hu=>j0l underlying74 HN63.out u rfl) hw ?_
   refine qv rfl (fun u hu=>j1m u D1.out rfl rfl) hw ?_
   refine enP fun u3 EX2=>?_
   go_upto_region 3 with (fail)
   refine rgQ [0,1,2] [] EX2 rfl fun hw=>?_
   refine qo rfl hw ?_
   refine qv rfl (fun u hu=>j0l underlying74 HN63.out u rfl) hw ?_
   refine qo rfl hw ?_
   refine enP fun u6 EX5=>?_
   have E0:=hD EX5.out
   clear EX5 E1
   go_upto_region 4 with (fail)
   go_loopw [10] (fun iv u=> ∃i:Nat,i≤n∧iv= .int .i64 (i:Int)∧Hid ((∀j,j<i→q1a (l.getD j j14)=true)∧(∀j,j<i→l.getD j j14∉ l.take j)∧EnvX w u [])) (fun iv _=>n- (intOf iv).toNat)
   case atStart=>exact⟨0,by omega,rfl,(fun j hj=>by omega),(fun j hj=>by omega),E0.out⟩
   case round=>
    obtain⟨i,hi,rfl,hinv⟩:=hrel
    have H1:=hD hinv.out.1
    have H2:=hD hinv.out.2.1
    have EK:=hD hinv.out.2.2
    clear hinv E0
    by_cases hlt:i<n
    · have C4:Hid (decide ((i:Int)<(n:Int))=true):=decide_eq_true (by omega)
      have HI:=hD hlt
      have hil:i<l.length:=by rw[HLN.out];exact hlt
      have HIL:=hD hil
      have HIC:Hid (i≤c):=by have:=HNC.out;show _≤_;omega
      obtain⟨ad,rfl,-,hld⟩:=HAA.out.loads HII.out hil
      have HLD:=hD hld
      have HX:Hid (j3e (l.getD i j14)):=(HII.out.get hil).len
      have HCT:Hid (Rb w 234 #[.slice (some ad) i c,inV (l.getD i j14)] (.bool (decide (l.getD i j14∈l.take i)))):=fun u hu=>
        j8i (l.take i) _ _ i c u (by rw[List.length_take];omega) (by have:=HN3.out;omega) (HII.out.take i) ((HAA.out.first i).up hu) HX.out
      obtain⟨x,hx⟩: ∃x,l.getD i j14=x:=⟨_,rfl⟩
      obtain⟨cb,hcb⟩: ∃cb,decide (l.getD i j14∈l.take i)=cb:=⟨_,rfl⟩
      have HCB:=hD hcb
      rw[hcb]at HCT
      have HXE:=hD hx
      rw[hx]at HX HLD HCT
      clear hld hil hlt hx hcb
      go_upto_region 4 with (fail)
      refine rgQ [0] [] EK rfl fun hw=>?_
      refine qv rfl (fun u hu=>j0o u C4.out rfl rfl) hw ?_
      refine enP fun u23 EX22=>?_
      go_upto_region 5 with (fail)
      refine rgQ [0,1,2] [3,4,5] EX22 rfl fun hw=>?_
      refine qo rfl hw ?_
      refine qv rfl (fun u hu=>j0h underlying74 aggIn.size HI.out u rfl rfl) hw ?_
      refine qv rfl (fun u hu=>j0a u (HLD.out u (nl hu)).1 rfl) hw ?_
      refine j0b<|qn rfl (q57 _) fun gi HG6 he25=>?_
      refine phE [4] [5] he25 fun hw=>?_
      refine qo rfl hw ?_
      refine j0b<|(j0z rfl (gi) (inA x) rfl rfl HG6.out.1 133 ((inA j14)) mH (q6m _ (j4l HX.out)) ((q02 (Nat.zero_le _)).trans (j4l HX.out).symm) (q2I _) [(gi,oc (inA x) 133)] (mA ⟨.inl rfl,fun _ h=>by cases h⟩) ?_)
      refine fun _=>enL fun u29 EX28=>?_
      by_cases c6:x.i<0
      · have C6:Hid (decide (x.i<0)=true):=decide_eq_true c6
        have HF:Hid (j2r l=false):=j8x HIL.out (by rw[HXE.out];exact decide_eq_false (by omega))
        clear c6
        go_upto_region 6 with (fail)
        refine rgK [0,1,2,3,4,5,6,7,8,9,10,11,12,13,14] 0 EX28 rfl fun hw=>?_
        refine qf rfl hw ?_
        refine ql rfl mH HX.out hw ?_
        refine qv rfl (fun u hu=>j0o u C6.out rfl rfl) hw ?_
        refine qw 12 hw ?_
        refine eH fun u32 EX31=>?_
        have HBE:=hD (EnvX.bel EX31.out)
        go_wp2
        go_ret
        exact⟨by rw[HF.out];first|done|rfl,HBE.out⟩
      have C6:Hid (decide (x.i<0)=false):=decide_eq_false c6
      by_cases c14:2<x.i
      · have C14:Hid (decide (2<x.i)=true):=decide_eq_true c14
        have HF:Hid (j2r l=false):=j8x HIL.out (by rw[HXE.out];exact decide_eq_false (by omega))
        clear c6 c14
        go_upto_region 6 with (fail)
        refine rgK [0,1,2,3,4,5,6,7,8,9,10,11,12,13,14] 0 EX28 rfl fun hw=>?_
        refine qf rfl hw ?_
        refine ql rfl mH HX.out hw ?_
        refine qv rfl (fun u hu=>j0o u C6.out rfl rfl) hw ?_
        refine qw 2 hw ?_
        refine ql rfl mH HX.out hw ?_
        refine qv rfl (fun u hu=>j1m u C14.out rfl rfl) hw ?_
        refine qw 8 hw ?_
        refine eH fun u32 EX31=>?_
        have HBE:=hD (EnvX.bel EX31.out)
        go_wp2
        go_ret
        exact⟨by rw[HF.out];first|done|rfl,HBE.out⟩
      have C14:Hid (decide (2<x.i)=false):=decide_eq_false c14
      have HMI:Hid (q1a (l.getD i j14)=true):=by show _=_;rw[HXE.out];exact decide_eq_true (by omega)
      clear c6 c14
      cases cb with
      | true=>
        have HF:Hid (j2r l=false):=j9X HIL.out (of_decide_eq_true HCB.out)
        go_upto_region 6 with (fail)
        refine rgK [0,1,2,3,4,5,6,7,8,9,10,11,12,13,14] 0 EX28 rfl fun hw=>?_
        refine qf rfl hw ?_
        refine ql rfl mH HX.out hw ?_
        refine qv rfl (fun u hu=>j0o u C6.out rfl rfl) hw ?_
        refine qw 2 hw ?_
        refine ql rfl mH HX.out hw ?_
        refine qv rfl (fun u hu=>j1m u C14.out rfl rfl) hw ?_
        refine qw 4 hw ?_
        refine qv (v:= .slice (some ad) i c) rfl (fun u hu=>j43 elIn u HIC.out rfl rfl) hw ?_
        refine ql rfl mH HX.out hw ?_
        refine qc rfl func234 (fun u hu=>HCT.out u (EnvX.bel hu)) hw ?_
        refine qo rfl hw ?_
        refine eH fun u32 EX31=>?_
        have HBE:=hD (EnvX.bel EX31.out)
        go_wp2
        go_ret
        exact⟨by rw[HF.out];first|done|rfl,HBE.out⟩
      | false=>
        go_upto_region 6 with (fail)
        refine rgK [0,1,2,3,4,5,6,7,8,9,10,11,12,13,14] 0 EX28 rfl fun hw=>?_
        refine qf rfl hw ?_
        refine ql rfl mH HX.out hw ?_
        refine qv rfl (fun u hu=>j0o u C6.out rfl rfl) hw ?_
        refine qw 2 hw ?_
        refine ql rfl mH HX.out hw ?_
        refine qv rfl (fun u hu=>j1m u C14.out rfl rfl) hw ?_
        refine qw 4 hw ?_
        refine qv (v:= .slice (some ad) i c) rfl (fun u hu=>j43 elIn u HIC.out rfl rfl) hw ?_
        refine ql rfl mH HX.out hw ?_
        refine qc rfl func234 (fun u hu=>HCT.out u (EnvX.bel hu)) hw ?_
        refine qo rfl hw ?_
        refine eH fun u32 EX31=>?_
        have H3:Hid (∀j,j<i+1→q1a (l.getD j j14)=true):=fun j hj=>by
         rcases Nat.lt_or_ge j i with h|h
         · exact H1.out j h
         · rw[show j=i by omega];exact HMI.out
        have H4:Hid (∀j,j<i+1→l.getD j j14∉ l.take j):=fun j hj=>by
         rcases Nat.lt_or_ge j i with h|h
         · exact H2.out j h
         · rw[show j=i by omega];exact of_decide_eq_false HCB.out
        have hii:=HI.out
        have hn3:=HN3.out
        go_wp2
        go_roundw
        case rel=>exact⟨i+1,by omega,by go_num,H3.out,H4.out,EX31.out.sub (fun _ h=>by cases h)⟩
        case measure=>simp[intOf];omega
    · obtain rfl:i=n:=by omega
      have C4:Hid (decide ((i:Int)<(i:Int))=false):=decide_eq_false (by omega)
      have HF:Hid (j2r l=true):=q2e (by rw[HLN.out];exact HN3.out) (by rw[HLN.out];exact H1.out) (by rw[HLN.out];exact H2.out)
      go_upto_region 4 with (fail)
      refine rgQ [0] [] EK rfl fun hw=>?_
      refine qv rfl (fun u hu=>j0o u C4.out rfl rfl) hw ?_
      refine enP fun u123 EX122=>?_
      have HBE:=hD (EnvX.bel EX122.out)
      go_wp2
      go_ret
      exact⟨by rw[HF.out];first|done|rfl,HBE.out⟩
theorem q2d (l:List OutR) (A:Option Addr) (n c:Nat) (w:World) (hl:l.length=n) (hnc:n≤c) (hcm:c≤maxLen) (hA:OutsIn w w.heap.size A l):
   Rz 228 #[.slice A n c] w (.bool (j1I l)):=by
 unfold Rz
 have HN63:Hid (n<9223372036854775808):=by show _<_;unfold maxLen at hcm;omega
 have E1:Hid (EnvX w w []):=EnvX.start w
 have HLN:=hD hl
 by_cases k1:n<1
 · have HF:Hid (j1I l=false):=by
    unfold j1I
    exact decide_eq_false (fun h=>by have:=h.1;omega)
   have D1:Hid (decide ((n:Int)<1)=true):=decide_eq_true (by omega)
   clear k1 hl hnc hcm hA
   go_enter func228,ntmps228
   go_upto_region 1 with (fail)
   refine rgQ [0,1,2,3,4,5,6,7] [] E1 rfl fun hw=>?_
   refine qo rfl hw ?_
   refine qv rfl (fun u hu=>j0l underlying75 HN63.out u rfl) hw ?_
   refine qv rfl (fun u hu=>j0o u D1.out rfl rfl) hw ?_
   refine qw 5 hw ?_
   refine enP fun u3 EX2=>?_
   have HBE:=hD (EnvX.bel EX2.out)
   go_wp2
   go_ret
   exact⟨by rw[HF.out];first|done|rfl,HBE.out⟩
 have D1:Hid (decide ((n:Int)<1)=false):=decide_eq_false (by omega)
 by_cases k3:3<n
 · have HF:Hid (j1I l=false):=by
    unfold j1I
    exact decide_eq_false (fun h=>by have:=h.2.1;omega)
   have D2:Hid (decide ((3:Int)<(n:Int))=true):=decide_eq_true (by omega)
   clear k1 k3 hl hnc hcm hA
   go_enter func228,ntmps228
   go_upto_region 1 with (fail)
   refine rgQ [0,1,2,3,4,5,6,7] [] E1 rfl fun hw=>?_
   refine qo rfl hw ?_
   refine qv rfl (fun u hu=>j0l underlying75 HN63.out u rfl) hw ?_
   refine qv rfl (fun u hu=>j0o u D1.out rfl rfl) hw ?_
   refine qw 2 hw ?_
   refine qv rfl (fun u hu=>j0l underlying75 HN63.out u rfl) hw ?_
   refine qv rfl (fun u hu=>j1m u D2.out rfl rfl) hw ?_
   refine qo rfl hw ?_
   refine enP fun u3 EX2=>?_
   have HBE:=hD (EnvX.bel EX2.out)
   go_wp2
   go_ret
   exact⟨by rw[HF.out];first|done|rfl,HBE.out⟩
 · have D2:Hid (decide ((3:Int)<(n:Int))=false):=decide_eq_false (by omega)
   have HN3:Hid (1≤n∧n≤3):=by show _∧_;omega
   have HAA:=hD hA
   clear k1 k3 hl hnc hcm hA
   go_enter func228,ntmps228
   go_upto_region 1 with (fail)
   refine rgQ [0,1,2,3,4,5,6,7] [] E1 rfl fun hw=>?_
   refine qo rfl hw ?_
   refine qv rfl (fun u hu=>j0l underlying75 HN63.out u rfl) hw ?_
   refine qv rfl (fun u hu=>j0o u D1.out rfl rfl) hw ?_
   refine qw 2 hw ?_
   refine qv rfl (fun u hu=>j0l underlying75 HN63.out u rfl) hw ?_
   refine qv rfl (fun u hu=>j1m u D2.out rfl rfl) hw ?_
   refine qo rfl hw ?_
   refine enP fun u3 EX2=>?_
   go_upto_region 3 with (fail)
   refine rgQ [0,1,2] [] EX2 rfl fun hw=>?_
   refine qo rfl hw ?_
   refine qv rfl (fun u hu=>j0l underlying75 HN63.out u rfl) hw ?_
   refine qo rfl hw ?_
   refine enP fun u6 EX5=>?_
   have E0:=hD EX5.out
   clear EX5 E1
   go_upto_region 4 with (fail)
   go_loopw [15] (fun iv u=> ∃i:Nat,i≤n∧iv= .int .i64 (i:Int)∧Hid ((∀j,j<i→j3E (l.getD j j1d)=true)∧EnvX w u [])) (fun iv _=>n- (intOf iv).toNat)
   case atStart=>exact⟨0,by omega,rfl,(fun j hj=>by omega),E0.out⟩
   case round=>
    obtain⟨i,hi,rfl,hinv⟩:=hrel
    have H1:=hD hinv.out.1
    have EK:=hD hinv.out.2
    clear hinv E0
    by_cases hlt:i<n
    · have C4:Hid (decide ((i:Int)<(n:Int))=true):=decide_eq_true (by omega)
      have HI:=hD hlt
      have hil:i<l.length:=by rw[HLN.out];exact hlt
      obtain⟨ad,rfl,-,hld⟩:=HAA.out.loads hil
      have HLD:=hD hld
      have HBAD:Hid (j3E (l.getD i j1d)=false→j1I l=false):=q2j hil
      have HGO:Hid (j3E (l.getD i j1d)=true→ ∀q,q<i+1→j3E (l.getD q j1d)=true):=fun hm q hq=>by
        rcases Nat.lt_or_ge q i with h|h
        · exact H1.out q h
        · rw[show q=i by omega];exact hm
      clear hld hil hlt
      generalize l.getD i j1d=ox at *
      go_upto_region 4 with (fail)
      refine rgQ [0] [] EK rfl fun hw=>?_
      refine qv rfl (fun u hu=>j0o u C4.out rfl rfl) hw ?_
      refine enP fun u23 EX22=>?_
      go_upto_region 5 with (fail)
      refine rgQ [0,1] [2,3] EX22 rfl fun hw=>?_
      refine qv rfl (fun u hu=>j0h underlying75 aggOut.size HI.out u rfl rfl) hw ?_
      refine qv rfl (fun u hu=>j0a u (HLD.out u (nl hu)).1 rfl) hw ?_
      refine j0b<|qn rfl (j9d _) fun gi HG6 he25=>?_
      change j1E _ _ _ _ _ _ [(gi,oc (j4r j1d) 135)]
      refine(j0z rfl (gi) (j4r ox) rfl rfl HG6.out.1 135 ((j4r j1d)) mH (j9a _ (j24 _)) rfl (j6W _) [(gi,oc (j4r ox) 135)] (mA ⟨.inl rfl,fun _ h=>by cases h⟩) ?_)
      refine fun _=>enL fun u28 EX27=>?_
      by_cases c0:ox.v<1
      · have C0:Hid (decide (ox.v<1)=true):=decide_eq_true c0
        have HF:Hid (j1I l=false):=HBAD.out (decide_eq_false (by omega))
        clear c0
        go_upto_region 6 with (fail)
        refine rgQ [0,1,2,3,4,5,6,7,8,9,10,11,12,13,14,15,16,17] [] EX27 rfl fun hw=>?_
        refine qf rfl hw ?_
        refine ql rfl mH trivial hw ?_
        refine qv rfl (fun u hu=>j0o u C0.out rfl rfl) hw ?_
        refine qw 15 hw ?_
        refine enP fun u31 EX30=>?_
        have HBE:=hD (EnvX.bel EX30.out)
        go_wp2
        go_ret
        exact⟨by rw[HF.out];first|done|rfl,HBE.out⟩
      have C0:Hid (decide (ox.v<1)=false):=decide_eq_false c0
      by_cases c1:1099511627776<ox.v
      · have C1:Hid (decide (1099511627776<ox.v)=true):=decide_eq_true c1
        have HF:Hid (j1I l=false):=HBAD.out (decide_eq_false (by omega))
        clear c0 c1
        go_upto_region 6 with (fail)
        refine rgQ [0,1,2,3,4,5,6,7,8,9,10,11,12,13,14,15,16,17] [] EX27 rfl fun hw=>?_
        refine qf rfl hw ?_
        refine ql rfl mH trivial hw ?_
        refine qv rfl (fun u hu=>j0o u C0.out rfl rfl) hw ?_
        refine qw 2 hw ?_
        refine ql rfl mH trivial hw ?_
        refine qv rfl (fun u hu=>j1m u C1.out rfl rfl) hw ?_
        refine qw 11 hw ?_
        refine enP fun u31 EX30=>?_
        have HBE:=hD (EnvX.bel EX30.out)
        go_wp2
        go_ret
        exact⟨by rw[HF.out];first|done|rfl,HBE.out⟩
      have C1:Hid (decide (1099511627776<ox.v)=false):=decide_eq_false c1
      by_cases c2:ox.tw<0
      · have C2:Hid (decide (ox.tw<0)=true):=decide_eq_true c2
        have HF:Hid (j1I l=false):=HBAD.out (decide_eq_false (by omega))
        clear c0 c1 c2
        go_upto_region 6 with (fail)
        refine rgQ [0,1,2,3,4,5,6,7,8,9,10,11,12,13,14,15,16,17] [] EX27 rfl fun hw=>?_
        refine qf rfl hw ?_
        refine ql rfl mH trivial hw ?_
        refine qv rfl (fun u hu=>j0o u C0.out rfl rfl) hw ?_
        refine qw 2 hw ?_
        refine ql rfl mH trivial hw ?_
        refine qv rfl (fun u hu=>j1m u C1.out rfl rfl) hw ?_
        refine qw 3 hw ?_
        refine ql rfl mH trivial hw ?_
        refine qv rfl (fun u hu=>j0o u C2.out rfl rfl) hw ?_
        refine qw 6 hw ?_
        refine enP fun u31 EX30=>?_
        have HBE:=hD (EnvX.bel EX30.out)
        go_wp2
        go_ret
        exact⟨by rw[HF.out];first|done|rfl,HBE.out⟩
      have C2:Hid (decide (ox.tw<0)=false):=decide_eq_false c2
      by_cases c3:255<ox.tw
      · have C3:Hid (decide (255<ox.tw)=true):=decide_eq_true c3
        have HF:Hid (j1I l=false):=HBAD.out (decide_eq_false (by omega))
        clear c0 c1 c2 c3
        go_upto_region 6 with (fail)
        refine rgQ [0,1,2,3,4,5,6,7,8,9,10,11,12,13,14,15,16,17] [] EX27 rfl fun hw=>?_
        refine qf rfl hw ?_
        refine ql rfl mH trivial hw ?_
        refine qv rfl (fun u hu=>j0o u C0.out rfl rfl) hw ?_
        refine qw 2 hw ?_
        refine ql rfl mH trivial hw ?_
        refine qv rfl (fun u hu=>j1m u C1.out rfl rfl) hw ?_
        refine qw 3 hw ?_
        refine ql rfl mH trivial hw ?_
        refine qv rfl (fun u hu=>j0o u C2.out rfl rfl) hw ?_
        refine qw 3 hw ?_
        refine ql rfl mH trivial hw ?_
        refine qv rfl (fun u hu=>j1m u C3.out rfl rfl) hw ?_
        refine qo rfl hw ?_
        refine enP fun u31 EX30=>?_
        have HBE:=hD (EnvX.bel EX30.out)
        go_wp2
        go_ret
        exact⟨by rw[HF.out];first|done|rfl,HBE.out⟩
      have C3:Hid (decide (255<ox.tw)=false):=decide_eq_false c3
      have H3:=hD (HGO.out (decide_eq_true (by omega)))
      clear c0 c1 c2 c3
      go_upto_region 6 with (fail)
      refine rgQ [0,1,2,3,4,5,6,7,8,9,10,11,12,13,14,15,16,17] [] EX27 rfl fun hw=>?_
      refine qf rfl hw ?_
      refine ql rfl mH trivial hw ?_
      refine qv rfl (fun u hu=>j0o u C0.out rfl rfl) hw ?_
      refine qw 2 hw ?_
      refine ql rfl mH trivial hw ?_
      refine qv rfl (fun u hu=>j1m u C1.out rfl rfl) hw ?_
      refine qw 3 hw ?_
      refine ql rfl mH trivial hw ?_
      refine qv rfl (fun u hu=>j0o u C2.out rfl rfl) hw ?_
      refine qw 3 hw ?_
      refine ql rfl mH trivial hw ?_
      refine qv rfl (fun u hu=>j1m u C3.out rfl rfl) hw ?_
      refine qo rfl hw ?_
      refine enP fun u31 EX30=>?_
      have hii:=HI.out
      have hn3:=HN3.out.2
      go_wp2
      go_roundw
      case rel=>exact⟨i+1,by omega,by go_num,H3.out,EX30.out.sub (fun _ h=>by cases h)⟩
      case measure=>simp[intOf];omega
    · obtain rfl:i=n:=by omega
      have C4:Hid (decide ((i:Int)<(i:Int))=false):=decide_eq_false (by omega)
      have HF:Hid (j1I l=true):=q0i (by rw[HLN.out];exact HN3.out) (by rw[HLN.out];exact H1.out)
      go_upto_region 4 with (fail)
      refine rgQ [0] [] EK rfl fun hw=>?_
      refine qv rfl (fun u hu=>j0o u C4.out rfl rfl) hw ?_
      refine enP fun u123 EX122=>?_
      have HBE:=hD (EnvX.bel EX122.out)
      go_wp2
      go_ret
      exact⟨by rw[HF.out];first|done|rfl,HBE.out⟩
theorem j7R(r:TxR)(A1:Option Addr)(n1 c1:Nat)(A2:Option Addr)(n2 c2:Nat)(w:World)(ht:TxOk w ⟨r,A1,n1,c1,A2,n2,c2⟩):
  Rz 210 #[txV ⟨r,A1,n1,c1,A2,n2,c2⟩] w (.bool (j4z r)):=by
 unfold Rz
 obtain⟨b1,hb1⟩: ∃b1,j2r r.ins=b1:=⟨_,rfl⟩
 obtain⟨b2,hb2⟩: ∃b2,j1I r.outs=b2:=⟨_,rfl⟩
 have HI1:Hid (Rb w 227 #[.slice A1 n1 c1] (.bool b1)):=fun u hu=>by
  have h:=q4g r.ins A1 n1 c1 u ht.l1 ht.b1.1 ht.b1.2 ht.o1 (ht.m1.up hu)
  rwa[hb1]at h
 have HO1:Hid (Rb w 228 #[.slice A2 n2 c2] (.bool b2)):=fun u hu=>by
  have h:=q2d r.outs A2 n2 c2 u ht.l2 ht.b2.1 ht.b2.2 (ht.m2.up hu)
  rwa[hb2]at h
 have HF:Hid (j4z r=(b1&& b2)):=by show _=_;rw[q8y,hb1,hb2]
 have E1:Hid (EnvX w (w.alloc (.cells (txA ⟨r,A1,n1,c1,A2,n2,c2⟩) 77)) [(w.heap.size,oc (txA ⟨r,A1,n1,c1,A2,n2,c2⟩) 77)]):=(EnvX.start w).new _
 clear ht hb1 hb2
 cases b1 with
 |false=>
  unfold txV
  go_enter func210,ntmps210
  go_upto_region 1 with (fail)
  generalize w.alloc (.cells (txA ⟨r,A1,n1,c1,A2,n2,c2⟩) 77)=W at *
  refine rgQ [0,1,2,3,4,5,6,7,8] [] E1 rfl fun hw=>?_
  refine qf rfl hw ?_
  refine ql rfl mH trivial hw ?_
  refine qc rfl func227 (fun u hu=>HI1.out u (EnvX.bel hu)) hw ?_
  refine qw 6 hw ?_
  refine enP fun u3 EX2=>?_
  have HBE:=hD (EnvX.bel EX2.out)
  go_wp2
  go_ret
  exact⟨by rw[HF.out];first|done|rfl,HBE.out⟩
 | true=>
  cases b2 with
  |false=>
   unfold txV
   go_enter func210,ntmps210
   go_upto_region 1 with (fail)
   generalize w.alloc (.cells (txA ⟨r,A1,n1,c1,A2,n2,c2⟩) 77)=W at *
   refine rgQ [0,1,2,3,4,5,6,7,8] [] E1 rfl fun hw=>?_
   refine qf rfl hw ?_
   refine ql rfl mH trivial hw ?_
   refine qc rfl func227 (fun u hu=>HI1.out u (EnvX.bel hu)) hw ?_
   refine qw 2 hw ?_
   refine ql rfl mH trivial hw ?_
   refine qc rfl func228 (fun u hu=>HO1.out u (EnvX.bel hu)) hw ?_
   refine qw 2 hw ?_
   refine enP fun u3 EX2=>?_
   have HBE:=hD (EnvX.bel EX2.out)
   go_wp2
   go_ret
   exact⟨by rw[HF.out];first|done|rfl,HBE.out⟩
  |true=>
   unfold txV
   go_enter func210,ntmps210
   go_upto_region 1 with (fail)
   generalize w.alloc (.cells (txA ⟨r,A1,n1,c1,A2,n2,c2⟩) 77)=W at *
   refine rgQ [0,1,2,3,4,5,6,7,8] [] E1 rfl fun hw=>?_
   refine qf rfl hw ?_
   refine ql rfl mH trivial hw ?_
   refine qc rfl func227 (fun u hu=>HI1.out u (EnvX.bel hu)) hw ?_
   refine qw 2 hw ?_
   refine ql rfl mH trivial hw ?_
   refine qc rfl func228 (fun u hu=>HO1.out u (EnvX.bel hu)) hw ?_
   refine qw 2 hw ?_
   refine enP fun u3 EX2=>?_
   have HBE:=hD (EnvX.bel EX2.out)
   go_wp2
   go_ret
   exact⟨by rw[HF.out];first|done|rfl,HBE.out⟩
theorem q2Y(t:TxM)(w:World)(ht:TxOk w t):Rz 210 #[txV t] w (.bool (j4z t.r)):=by
 unfold Rz
 obtain⟨r,A1,n1,c1,A2,n2,c2⟩:=t
 exact j7R r A1 n1 c1 A2 n2 c2 w ht
theorem q29{v:Int}(h:0≤v∧v≤255):j2O v.toNat 1=[v]:=by
 show []++[((v.toNat % 256:Nat):Int)]=[v]
 rw[List.nil_append]
 congr 1
 omega
theorem q0B{n:Nat}(h:n≤255):j2O n 1=[(n:Int)]:=by
 show []++[((n % 256:Nat):Int)]=[(n:Int)]
 rw[List.nil_append]
 congr 1
 omega
theorem x0Y(r:TxR)(A1:Option Addr)(n1 c1:Nat)(A2:Option Addr)(n2 c2:Nat)(w:World)(ht:TxOk w ⟨r,A1,n1,c1,A2,n2,c2⟩)(k1:j4z r=false):
  Calls Tryz.prog 184 #[txV ⟨r,A1,n1,c1,A2,n2,c2⟩] w fun e w'=>(∃v,e= .returned (.tuple #[v, .bool (j9M r).2])∧OwnB w' w.heap.size v (j9M r).1)∧Below w.heap.size w w':=by
 have hp:j9M r=([],false):=by unfold j9M;rw[k1];rfl
 rw[hp]
 clear hp
 have HT:=hD ht
 have HN63:=hD ht.n63
 obtain⟨hn1,hn2⟩:=ht.n63
 have HL:Hid (r.ins.length=n1∧r.outs.length=n2):=⟨ht.l1,ht.l2⟩
 have HMY:Hid (Rb w 210 #[txV ⟨r,A1,n1,c1,A2,n2,c2⟩] (.bool false)):=fun u hu=>by
  have h:=j7R r A1 n1 c1 A2 n2 c2 u (ht.up hu)
  rwa[k1]at h
 have E1:Hid (EnvX w (w.alloc (.cells (txA ⟨r,A1,n1,c1,A2,n2,c2⟩) 77)) [(w.heap.size,oc (txA ⟨r,A1,n1,c1,A2,n2,c2⟩) 77)]):=(EnvX.start w).new _
 clear ht k1
 unfold txV at *
 go_enter func184,ntmps184
 go_upto_region 1 with (fail)
 generalize w.alloc (.cells (txA ⟨r,A1,n1,c1,A2,n2,c2⟩) 77)=W at *
 refine rgQ [0,1,2] [] E1 rfl fun hw=>?_
 refine ql rfl mH trivial hw ?_
 refine qc rfl func210 (fun u hu=>HMY.out u (EnvX.bel hu)) hw ?_
 refine qo rfl hw ?_
 refine enP fun u3 EX2=>?_
 have HBE:=hD (EnvX.bel EX2.out)
 go_wp2
 go_returns
 exact⟨⟨_,rfl,OwnB.nil _ _⟩,HBE.out⟩
theorem q5F(r:TxR)(A1:Option Addr)(n1 c1:Nat)(A2:Option Addr)(n2 c2:Nat)(w:World)(ht:TxOk w ⟨r,A1,n1,c1,A2,n2,c2⟩)(k1:j4z r=true):
  Calls Tryz.prog 184 #[txV ⟨r,A1,n1,c1,A2,n2,c2⟩] w fun e w'=>(∃v,e= .returned (.tuple #[v, .bool (j9M r).2])∧OwnB w' w.heap.size v (j9M r).1)∧Below w.heap.size w w':=by
 have hp:j9M r=(j3K r,true):=by unfold j9M;rw[k1];rfl
 rw[hp]
 clear hp
 have HT:=hD ht
 have HN63:=hD ht.n63
 obtain⟨hn1,hn2⟩:=ht.n63
 have HL:Hid (r.ins.length=n1∧r.outs.length=n2):=⟨ht.l1,ht.l2⟩
 have HMY:Hid (Rb w 210 #[txV ⟨r,A1,n1,c1,A2,n2,c2⟩] (.bool true)):=fun u hu=>by
  have h:=j7R r A1 n1 c1 A2 n2 c2 u (ht.up hu)
  rwa[k1]at h
 have E1:Hid (EnvX w (w.alloc (.cells (txA ⟨r,A1,n1,c1,A2,n2,c2⟩) 77)) [(w.heap.size,oc (txA ⟨r,A1,n1,c1,A2,n2,c2⟩) 77)]):=(EnvX.start w).new _
 have hmx:=mayX_iff.1 k1
 have hl1:r.ins.length=n1:=ht.l1
 have hl2:r.outs.length=n2:=ht.l2
 rw[hl1,hl2]at hmx
 obtain⟨hm1,hm2,hm3,hm4,-,hm5⟩:=hmx
 clear hl1 hl2
 have HM4:=hD hm4
 have HM5:=hD hm5
 have HOK:Hid (okX r):=ht.ok
 have HN3:Hid (n1≤3∧n2≤3):=⟨hm1,hm3⟩
 have HPT:Hid (∀(n k:Nat),n<18446744073709551616→k≤8→ ∀u,Calls Tryz.prog 113 #[.int .u64 (n:Int), .int .i64 k] u fun e w'=>(∃v,e= .returned v∧OwnB w' u.heap.size v (j2O n k))∧Below u.heap.size u w'):=fun n k hn hk u=>q1J n k u hn hk
 have CN1:Hid (IntKind.u64.wrap (n1:Int)=(n1:Int)):=by show _=_;rw[IntKind.wrap_u64];omega
 have CN2:Hid (IntKind.u64.wrap (n2:Int)=(n2:Int)):=by show _=_;rw[IntKind.wrap_u64];omega
 clear hm4 hm5
 clear ht k1
 unfold txV at *
 go_enter func184,ntmps184
 go_upto_region 1 with (fail)
 generalize w.alloc (.cells (txA ⟨r,A1,n1,c1,A2,n2,c2⟩) 77)=W at *
 refine rgQ [0,1,2] [] E1 rfl fun hw=>?_
 refine ql rfl mH trivial hw ?_
 refine qc rfl func210 (fun u hu=>HMY.out u (EnvX.bel hu)) hw ?_
 refine qo rfl hw ?_
 refine enP fun u3 EX2=>?_
 go_upto_region 3 with (fail)
 refine rgQ [0,1,2,3] [4,5] EX2 rfl fun hw=>?_
 refine qf rfl hw ?_
 refine ql rfl mH trivial hw ?_
 refine qv rfl (fun u hu=>j0l underlying74 HN63.out.1 u rfl) hw ?_
 refine qv (v:= .int .u64 ((n1:Nat):Int)) rfl (fun u hu=>j2C u CN1.out rfl) hw ?_
 refine j0b<|qr (R:=FreshR 5 1 1 ((j2O n1 1).map u8v)) rfl func113 (fun u hu=>by have h:=j0i (HPT.out n1 1 (by have:=HN3.out.1;omega) (by decide) u);rw[j0S]at h;exact h) ?_
 rintro x0 N0 hF hf he5
 have HF0:=hD hF
 have HN0:=hD hf
 clear hF
 clear hf
 refine phE [5] [] he5 fun hw=>?_
 refine qo rfl hw ?_
 refine enP fun u8 EX7=>?_
 have HFX:Hid (FreshY (j79 r.ins 0) x0 N0):=by
  have e:j79 r.ins 0=j2O n1 1:=by rw[q0B (by have:=HN3.out.1;omega)];unfold j79;rw[HL.out.1];rfl
  show FreshY _ _ _
  rw[e]
  unfold FreshY
  rw[j0S]
  exact HF0.out
 clear HF0
 go_upto_region 4 with (fail)
 refine rgQ [0,1,2,3] [] EX7 rfl fun hw=>?_
 refine qf rfl hw ?_
 refine ql rfl (mR mH) trivial hw ?_
 refine qv rfl (fun u hu=>j0l underlying74 HN63.out.1 u rfl) hw ?_
 refine qo rfl hw ?_
 refine enP fun u11 EX10=>?_
 have HIN:Hid (x3v w [(w.heap.size,oc (txA ⟨r,A1,n1,c1,A2,n2,c2⟩) 77)] (j79 r.ins 0) x0 u11):=⟨N0,HFX.out,HN0.out,EX10.out⟩
 clear EX10 E1 HFX HN0
 go_upto_region 5 with (fail)
 go_loopw [4,20] (fun v iv u=> ∃i:Nat,i≤n1∧iv= .int .i64 (i:Int)∧Hid (x3v w [(w.heap.size,oc (txA ⟨r,A1,n1,c1,A2,n2,c2⟩) 77)] (j79 r.ins i) v u)) (fun _ iv _=>n1- (intOf iv).toNat)
 case atStart=>exact⟨0,by omega,rfl,HIN⟩
 case round=>
  obtain⟨i,hi,rfl,hinv⟩:=hrel
  obtain⟨N,hF,hN,hE⟩:=hinv.out
  have HF:=hD hF
  have HN:=hD hN
  have EK:=hD hE
  clear hinv HIN hF hN hE
  by_cases hlt:i<n1
  · have C4:Hid (decide ((i:Int)<(n1:Int))=true):=decide_eq_true (by omega)
    have HI:=hD hlt
    have hil:i<r.ins.length:=by rw[HL.out.1];exact hlt
    obtain⟨ad,rfl,-,hld⟩:=HT.out.m1.loads HT.out.o1 hil
    have HLD:=hD hld
    have hok:=HT.out.o1.get hil
    have hmem:r.ins.getD i j14∈r.ins:=q3b r.ins j14 hil
    have hb:=HM4.out _ hmem
    have HSL:Hid ((j79 r.ins i).length≤1000):=by have h1:(j79 r.ins i).length≤1+33*r.ins.length:=q1K HT.out.o1 i;rw[HL.out.1]at h1;have:=HN3.out.1;show _≤_;omega
    have HX:Hid (j3e (r.ins.getD i j14)):=hok.len
    have CI:Hid (IntKind.u64.wrap (r.ins.getD i j14).i=(((r.ins.getD i j14).i.toNat:Nat):Int)):=by show _=_;rw[IntKind.wrap_u64];omega
    have HIB:Hid ((r.ins.getD i j14).i.toNat<18446744073709551616):=by show _<_;omega
    have HST:Hid (j79 r.ins (i+1)=j79 r.ins i++(r.ins.getD i j14).tx++j2O (r.ins.getD i j14).i.toNat 1):=by show _=_;rw[q29 (by omega)];exact q7u hil
    clear hld hil hok hmem hb
    generalize r.ins.getD i j14=x at *
    generalize j79 r.ins i=xs at *
    go_upto_region 5 with (fail)
    refine rgQ [0] [] EK rfl fun hw=>?_
    refine qv rfl (fun u hu=>j0o u C4.out rfl rfl) hw ?_
    refine enP fun u43 EX42=>?_
    go_upto_region 6 with (fail)
    refine rgQ [0,1] [2,3] EX42 rfl fun hw=>?_
    refine qv rfl (fun u hu=>j0h underlying74 aggIn.size HI.out u rfl rfl) hw ?_
    refine qv rfl (fun u hu=>j0a u (HLD.out u (nl hu)).1 rfl) hw ?_
    refine j0b<|qn rfl (q57 _) fun gi HG6 he45=>?_
    change j1E _ _ _ _ _ _ ((gi,oc (inA j14) 133)::(N++((w.heap.size,oc (txA ⟨r,some ad,n1,c1,A2,n2,c2⟩) 77)::[])))
    refine(sh rfl HG6 (q6m _ (j4l HX.out)) ((q02 (Nat.zero_le _)).trans (j4l HX.out).symm) (q2I _) ?_)
    refine fun _=>enL fun u48 EX47=>?_
    have HNG:Hid (∀y∈N,gi≠y.1):=fun y hy e=>HG6.out.2 y (mL hy) e.symm
    have HTG:Hid (w.heap.size≠gi):=HG6.out.2 (w.heap.size,oc (txA ⟨r,some ad,n1,c1,A2,n2,c2⟩) 77) (mR mH)
    go_upto_region 7 with (fail)
    refine rgQ [0,1,2] [3,4] EX47 rfl fun hw=>?_
    refine qw 2 hw ?_
    refine qv (v:= .slice (some ⟨gi,0,none⟩) 32 32) rfl (fun u hu=>j1R u rfl) hw ?_
    refine j0b<|(j03 (gd:=none) (R:=j8n w (xs++x.tx) [(gi,oc (inA x) 133),(w.heap.size,oc (txA ⟨r,some ad,n1,c1,A2,n2,c2⟩) 77)]) rfl rfl rfl rfl (fun u hu=>j7L (m:=32) [(gi,oc (inA x) 133),(w.heap.size,oc (txA ⟨r,some ad,n1,c1,A2,n2,c2⟩) 77)] hu HX.out HF.out (fun y hy=>⟨mT (mL hy),(HN.out y hy).1⟩) (j1p hu mH (q7p HX.out)) (mA ⟨⟨mH,HNG.out⟩,fun z hz=>⟨mT (mR hz),fun y hy=>(HN.out y hy).2 z hz⟩⟩) (by have:=HSL.out;omega) rfl rfl) ?_)
    rintro x7 M' ⟨N7,rfl,hF9,hn9⟩ he50;intro K' hK';go_big_quiet_op;go_big_quiet_on
    have HN7F:=hD hF9
    have HN7N:=hD hn9
    clear hF9 hn9
    refine phE [4] [] he50 fun hw=>?_
    refine qo rfl hw ?_
    refine enP fun u53 EX52=>?_
    have HS2:Hid ((xs++x.tx).length≤1100):=by show _≤_;rw[lA];have:=HSL.out;have h2:x.tx.length=32:=HX.out;omega
    go_upto_region 8 with (fail)
    refine rgQ [0,1,2,3] [4,5,6] EX52 rfl fun hw=>?_
    refine qw 2 hw ?_
    refine ql rfl (mR mH) HX.out hw ?_
    refine qv (v:= .int .u64 ((x.i.toNat:Nat):Int)) rfl (fun u hu=>j2C u CI.out rfl) hw ?_
    refine j0b<|qr (R:=FreshR 5 1 1 ((j2O x.i.toNat 1).map u8v)) rfl func113 (fun u hu=>by have h:=j0i (HPT.out x.i.toNat 1 HIB.out (by decide) u);rw[j0S]at h;exact h) ?_
    rintro xp Np hF hf he55
    obtain⟨g8,cap8,cur8,rfl,rfl,hcp⟩|⟨_,_,h0,_⟩:=hF
    case inr=>cases h0
    have HC_g8:=hD hcp
    clear hcp
    clear hf
    change j1E _ _ _ _ _ _ ((g8,oc cur8 5)::(N7++((gi,oc (inA x) 133)::((w.heap.size,oc (txA ⟨r,some ad,n1,c1,A2,n2,c2⟩) 77)::[]))))
    refine(j03 (gd:=none) (R:=j8n w ((xs++x.tx)++j2O x.i.toNat 1) [(w.heap.size,oc (txA ⟨r,some ad,n1,c1,A2,n2,c2⟩) 77)]) rfl rfl rfl rfl (fun u hu=>j7L (m:=1) [(w.heap.size,oc (txA ⟨r,some ad,n1,c1,A2,n2,c2⟩) 77)] hu (j0S _ _) HN7F.out (fun y hy=>⟨mT (mL hy),(HN7N.out y hy).1⟩) (j5B hu mH (j0S _ _) HC_g8.out.2.2.2) (fun z hz=>⟨mT (mR (mT hz)),fun y hy=>(HN7N.out y hy).2 z (mT hz)⟩) (by have:=HS2.out;omega) rfl rfl) ?_)
    rintro x8 M' ⟨N8,rfl,hF9,hn9⟩ he56;intro K' hK';go_big_quiet_op;go_big_quiet_on
    have HN8F:=hD hF9
    have HN8N:=hD hn9
    clear hF9 hn9
    refine phE [6] [] he56 fun hw=>?_
    refine qo rfl hw ?_
    refine enP fun u59 EX58=>?_
    have HNX:Hid (x3v w [(w.heap.size,oc (txA ⟨r,some ad,n1,c1,A2,n2,c2⟩) 77)] (j79 r.ins (i+1)) x8 u59):=⟨N8,by rw[HST.out];exact HN8F.out,HN8N.out,EX58.out⟩
    have hin:=HI.out
    have hn3:=HN3.out.1
    go_wp2
    go_roundw
    case rel=>exact⟨i+1,by omega,by go_num,HNX⟩
    case measure=>simp[intOf];omega
  · obtain rfl:i=n1:=by omega
    have C4:Hid (decide ((i:Int)<(i:Int))=false):=decide_eq_false (by omega)
    have HS0:Hid ((j79 r.ins i).length≤1000):=by have h1:(j79 r.ins i).length≤1+33*r.ins.length:=q1K HT.out.o1 i;rw[HL.out.1]at h1;have:=HN3.out.1;show _≤_;omega
    have HO0:Hid (j79 r.ins i++j2O n2 1=j4p r 0):=by
     show _=_
     have h1:=HL.out.1
     have h2:=HL.out.2
     rw[q0B (by have:=HN3.out.2;omega)]
     unfold j4p
     rw[h1,h2,List.take_zero,List.map_nil,List.flatten_nil,List.append_nil]
    generalize j79 r.ins i=xs at *
    go_upto_region 5 with (fail)
    refine rgQ [0] [] EK rfl fun hw=>?_
    refine qv rfl (fun u hu=>j0o u C4.out rfl rfl) hw ?_
    refine enP fun u143 EX142=>?_
    go_upto_region 10 with (fail)
    refine rgQ [0,1,2,3,4] [5,6,7] EX142 rfl fun hw=>?_
    refine qw 2 hw ?_
    refine ql rfl (mR mH) trivial hw ?_
    refine qv rfl (fun u hu=>j0l underlying75 HN63.out.2 u rfl) hw ?_
    refine qv (v:= .int .u64 ((n2:Nat):Int)) rfl (fun u hu=>j2C u CN2.out rfl) hw ?_
    refine j0b<|qr (R:=FreshR 5 1 1 ((j2O n2 1).map u8v)) rfl func113 (fun u hu=>by have h:=j0i (HPT.out n2 1 (by have:=HN3.out.2;omega) (by decide) u);rw[j0S]at h;exact h) ?_
    rintro xp Np hF hf he145
    obtain⟨g10,cap10,cur10,rfl,rfl,hcp⟩|⟨_,_,h0,_⟩:=hF
    case inr=>cases h0
    have HC_g10:=hD hcp
    clear hcp
    clear hf
    change j1E _ _ _ _ _ _ ((g10,oc cur10 5)::(N++((w.heap.size,oc (txA ⟨r,A1,i,c1,A2,n2,c2⟩) 77)::[])))
    refine(j03 (gd:=none) (R:=j8n w (xs++j2O n2 1) [(w.heap.size,oc (txA ⟨r,A1,i,c1,A2,n2,c2⟩) 77)]) rfl rfl rfl rfl (fun u hu=>j7L (m:=1) [(w.heap.size,oc (txA ⟨r,A1,i,c1,A2,n2,c2⟩) 77)] hu (j0S _ _) HF.out (fun y hy=>⟨mT (mL hy),(HN.out y hy).1⟩) (j5B hu mH (j0S _ _) HC_g10.out.2.2.2) (fun z hz=>⟨mT (mR hz),fun y hy=>(HN.out y hy).2 z hz⟩) (by have:=HS0.out;omega) rfl rfl) ?_)
    rintro x10 M' ⟨N10,rfl,hF9,hn9⟩ he146;intro K' hK';go_big_quiet_op;go_big_quiet_on
    have HN10F:=hD hF9
    have HN10N:=hD hn9
    clear hF9 hn9
    refine phE [7] [] he146 fun hw=>?_
    refine qo rfl hw ?_
    refine enP fun u149 EX148=>?_
    go_upto_region 11 with (fail)
    refine rgQ [0,1,2,3] [] EX148 rfl fun hw=>?_
    refine qf rfl hw ?_
    refine ql rfl (mR mH) trivial hw ?_
    refine qv rfl (fun u hu=>j0l underlying75 HN63.out.2 u rfl) hw ?_
    refine qo rfl hw ?_
    refine enP fun u152 EX151=>?_
    have HIN:Hid (x3v w [(w.heap.size,oc (txA ⟨r,A1,i,c1,A2,n2,c2⟩) 77)] (j4p r 0) x10 u152):=⟨N10,by rw[←HO0.out];exact HN10F.out,HN10N.out,EX151.out⟩
    clear EX151 EK HN10F HN10N HF HN
    go_upto_region 12 with (fail)
    go_loopw [4,45] (fun v iv u=> ∃j:Nat,j≤n2∧iv= .int .i64 (j:Int)∧Hid (x3v w [(w.heap.size,oc (txA ⟨r,A1,i,c1,A2,n2,c2⟩) 77)] (j4p r j) v u)) (fun _ iv _=>n2- (intOf iv).toNat)
    case atStart=>exact⟨0,by omega,rfl,HIN⟩
    case round=>
     obtain⟨j,hj,rfl,hinv⟩:=hrel
     obtain⟨N,hF,hN,hE⟩:=hinv.out
     have HF:=hD hF
     have HN:=hD hN
     have EK:=hD hE
     clear hinv HIN hF hN hE
     by_cases hlt:j<n2
     · have C12:Hid (decide ((j:Int)<(n2:Int))=true):=decide_eq_true (by omega)
       have HJ:=hD hlt
       have hjl:j<r.outs.length:=by rw[HL.out.2];exact hlt
       obtain⟨ad,rfl,-,hld⟩:=HT.out.m2.loads hjl
       have HLD:=hD hld
       have hmem:r.outs.getD j j1d∈r.outs:=q3b r.outs j1d hjl
       have hb:=HM5.out _ hmem
       have HSL:Hid ((j4p r j).length≤1000):=by have h1:(j4p r j).length≤2+33*r.ins.length+7*r.outs.length:=q9P HOK.out j;rw[HL.out.1,HL.out.2]at h1;have:=HN3.out;show _≤_;omega
       have CT:Hid (IntKind.u64.wrap (r.outs.getD j j1d).tw=(((r.outs.getD j j1d).tw.toNat:Nat):Int)):=by show _=_;rw[IntKind.wrap_u64];omega
       have CV:Hid (IntKind.u64.wrap (r.outs.getD j j1d).v=(((r.outs.getD j j1d).v.toNat:Nat):Int)):=by show _=_;rw[IntKind.wrap_u64];omega
       have HB2:Hid ((r.outs.getD j j1d).v.toNat<18446744073709551616∧(r.outs.getD j j1d).tw.toNat<18446744073709551616):=by show _∧_;omega
       have HST:Hid (j4p r (j+1)=j4p r j++j2O (r.outs.getD j j1d).v.toNat 6++j2O (r.outs.getD j j1d).tw.toNat 1):=by show _=_;rw[q29 (by omega)];exact q5n hjl
       clear hld hjl hmem hb
       generalize r.outs.getD j j1d=x at *
       generalize j4p r j=xs at *
       go_upto_region 12 with (fail)
       refine rgQ [0] [] EK rfl fun hw=>?_
       refine qv rfl (fun u hu=>j0o u C12.out rfl rfl) hw ?_
       refine enP fun u243 EX242=>?_
       go_upto_region 13 with (fail)
       refine rgQ [0,1] [2,3] EX242 rfl fun hw=>?_
       refine qv rfl (fun u hu=>j0h underlying75 aggOut.size HJ.out u rfl rfl) hw ?_
       refine qv rfl (fun u hu=>j0a u (HLD.out u (nl hu)).1 rfl) hw ?_
       refine j0b<|qn rfl (j9d _) fun gi HG6 he245=>?_
       change j1E _ _ _ _ _ _ ((gi,oc (j4r j1d) 135)::(N++((w.heap.size,oc (txA ⟨r,A1,i,c1,some ad,n2,c2⟩) 77)::[])))
       refine(sh (cs:=j4r x) rfl HG6 (j9a _ (j24 _)) rfl (j6W _) ?_)
       refine fun _=>enL fun u248 EX247=>?_
       have HNG:Hid (∀y∈N,gi≠y.1):=fun y hy e=>HG6.out.2 y (mL hy) e.symm
       go_upto_region 14 with (fail)
       refine rgQ [0,1,2,3] [4,5,6] EX247 rfl fun hw=>?_
       refine qw 2 hw ?_
       refine ql rfl mH trivial hw ?_
       refine qv (v:= .int .u64 ((x.v.toNat:Nat):Int)) rfl (fun u hu=>j2C u CV.out rfl) hw ?_
       refine j0b<|qr (R:=FreshR 5 1 6 ((j2O x.v.toNat 6).map u8v)) rfl func113 (fun u hu=>by have h:=j0i (HPT.out x.v.toNat 6 HB2.out.1 (by decide) u);rw[j0S]at h;exact h) ?_
       rintro xp Np hF hf he250
       obtain⟨g14,cap14,cur14,rfl,rfl,hcp⟩|⟨_,_,h0,_⟩:=hF
       case inr=>cases h0
       have HC_g14:=hD hcp
       clear hcp
       clear hf
       change j1E _ _ _ _ _ _ ((g14,oc cur14 5)::((gi,oc (j4r x) 135)::(N++((w.heap.size,oc (txA ⟨r,A1,i,c1,some ad,n2,c2⟩) 77)::[]))))
       refine(j03 (gd:=none) (R:=j8n w (xs++j2O x.v.toNat 6) [(gi,oc (j4r x) 135),(w.heap.size,oc (txA ⟨r,A1,i,c1,some ad,n2,c2⟩) 77)]) rfl rfl rfl rfl (fun u hu=>j7L (m:=6) [(gi,oc (j4r x) 135),(w.heap.size,oc (txA ⟨r,A1,i,c1,some ad,n2,c2⟩) 77)] hu (j0S _ _) HF.out (fun y hy=>⟨mT (mT (mL hy)),(HN.out y hy).1⟩) (j5B hu mH (j0S _ _) HC_g14.out.2.2.2) (mA ⟨⟨mT mH,HNG.out⟩,fun z hz=>⟨mT (mT (mR hz)),fun y hy=>(HN.out y hy).2 z hz⟩⟩) (by have:=HSL.out;omega) rfl rfl) ?_)
       rintro x14 M' ⟨N14,rfl,hF9,hn9⟩ he251;intro K' hK';go_big_quiet_op;go_big_quiet_on
       have HN14F:=hD hF9
       have HN14N:=hD hn9
       clear hF9 hn9
       refine phE [6] [] he251 fun hw=>?_
       refine qo rfl hw ?_
       refine enP fun u254 EX253=>?_
       have HS2:Hid ((xs++j2O x.v.toNat 6).length≤1100):=by show _≤_;rw[lA,j0S];have:=HSL.out;omega
       go_upto_region 15 with (fail)
       refine rgQ [0,1,2,3] [4,5,6] EX253 rfl fun hw=>?_
       refine qw 2 hw ?_
       refine ql rfl (mR mH) trivial hw ?_
       refine qv (v:= .int .u64 ((x.tw.toNat:Nat):Int)) rfl (fun u hu=>j2C u CT.out rfl) hw ?_
       refine j0b<|qr (R:=FreshR 5 1 1 ((j2O x.tw.toNat 1).map u8v)) rfl func113 (fun u hu=>by have h:=j0i (HPT.out x.tw.toNat 1 HB2.out.2 (by decide) u);rw[j0S]at h;exact h) ?_
       rintro xp Np hF hf he256
       obtain⟨g15,cap15,cur15,rfl,rfl,hcp⟩|⟨_,_,h0,_⟩:=hF
       case inr=>cases h0
       have HC_g15:=hD hcp
       clear hcp
       clear hf
       change j1E _ _ _ _ _ _ ((g15,oc cur15 5)::(N14++((gi,oc (j4r x) 135)::((w.heap.size,oc (txA ⟨r,A1,i,c1,some ad,n2,c2⟩) 77)::[]))))
       refine(j03 (gd:=none) (R:=j8n w ((xs++j2O x.v.toNat 6)++j2O x.tw.toNat 1) [(w.heap.size,oc (txA ⟨r,A1,i,c1,some ad,n2,c2⟩) 77)]) rfl rfl rfl rfl (fun u hu=>j7L (m:=1) [(w.heap.size,oc (txA ⟨r,A1,i,c1,some ad,n2,c2⟩) 77)] hu (j0S _ _) HN14F.out (fun y hy=>⟨mT (mL hy),(HN14N.out y hy).1⟩) (j5B hu mH (j0S _ _) HC_g15.out.2.2.2) (fun z hz=>⟨mT (mR (mT hz)),fun y hy=>(HN14N.out y hy).2 z (mT hz)⟩) (by have:=HS2.out;omega) rfl rfl) ?_)
       rintro x15 M' ⟨N15,rfl,hF9,hn9⟩ he257;intro K' hK';go_big_quiet_op;go_big_quiet_on
       have HN15F:=hD hF9
       have HN15N:=hD hn9
       clear hF9 hn9
       refine phE [6] [] he257 fun hw=>?_
       refine qo rfl hw ?_
       refine enP fun u260 EX259=>?_
       have HNX:Hid (x3v w [(w.heap.size,oc (txA ⟨r,A1,i,c1,some ad,n2,c2⟩) 77)] (j4p r (j+1)) x15 u260):=⟨N15,by rw[HST.out];exact HN15F.out,HN15N.out,EX259.out⟩
       have hjn:=HJ.out
       have hn3:=HN3.out.2
       go_wp2
       go_roundw
       case rel=>exact⟨j+1,by omega,by go_num,HNX⟩
       case measure=>simp[intOf];omega
     · obtain rfl:j=n2:=by omega
       have C12:Hid (decide ((j:Int)<(j:Int))=false):=decide_eq_false (by omega)
       have hall:j4p r j=j3K r:=by rw[←HL.out.2];exact q7Y r
       rw[hall]at HF
       clear hall
       go_upto_region 12 with (fail)
       refine rgQ [0] [] EK rfl fun hw=>?_
       refine qv rfl (fun u hu=>j0o u C12.out rfl rfl) hw ?_
       refine enP fun u443 EX442=>?_
       go_upto_region 17 with (fail)
       refine rgQ [0,1,2] [] EX442 rfl fun hw=>?_
       refine qw 3 hw ?_
       refine enP fun u446 EX445=>?_
       have HO:=hD (FreshY.own (w:=u446) (B:=w.heap.size) HF.out (fun y hy=>⟨(HN.out y hy).1,EnvX.box EX445.out _ _ (mL hy)⟩))
       have HBE:=hD (EnvX.bel EX445.out)
       go_wp2
       go_returns
       exact⟨⟨_,rfl,HO.out⟩,HBE.out⟩
theorem q3O(t:TxM)(w:World)(ht:TxOk w t):
  Calls Tryz.prog 184 #[txV t] w fun e w'=>(∃v,e= .returned (.tuple #[v, .bool (j9M t.r).2])∧OwnB w' w.heap.size v (j9M t.r).1)∧Below w.heap.size w w':=by
 obtain⟨r,A1,n1,c1,A2,n2,c2⟩:=t
 cases k1:j4z r with
 |false=>exact x0Y r A1 n1 c1 A2 n2 c2 w ht k1
 |true=>exact q5F r A1 n1 c1 A2 n2 c2 w ht k1
open Go Go.RowKit
section
variable {P:Program}{ops:Array Oper}{Q:Exit→Act→World→Prop}{md:Region.Mode}{n l:Nat}
theorem x3d{o:Oper}(hnd: ∀c,o.op≠ .defer c){a:Act}{w:World}{K:Act→World→Prop}(h:o.wp P a w K Q):o.wpIn (Fence.wide.inRound l) n P a w K Q:=by
 refine⟨fun _ _=>trivial,?_⟩
 rw[Oper.semAt_plain _ _ _ hnd]
 unfold Oper.wp at h
 have hd:(Fence.wide.inRound l).depth.isSome=true→1≤n:=fun h=>by cases h
 generalize (execOp a.eval o).run P w=r at *
 cases r with
 |ok x w'=>
  cases x<;>simp only[Oper.upon,Oper.uponIn]at h ⊢
  case value=>exact h
  case skip=>exact h
  case defer=>exact h
  case enter=>exact⟨hd,(CallsIn.inRound l (callsIn_wide.2 h)).mono (fun e w'' he=>by cases e<;>exact he)⟩
  case row=>exact⟨hd,fun c cs _=>let ⟨v,w',r,s⟩:=h c cs;⟨v,w',r,stepsIn_wide.2 s⟩⟩
 |halt x w'=>cases x<;>simp only[Oper.upon,Oper.uponIn]at h ⊢ <;>exact h
def q6h(ops:Array Oper):Bool:=ops.all fun o=>match o.op with| .defer _=>false|_=>true
theorem j96{ops:Array Oper}(h:q6h ops=true){i:Nat}{o:Oper}(ho:ops[i]?=some o): ∀c,o.op≠ .defer c:=by
 intro c hc
 have:=Array.all_eq_true_iff_forall_mem.1 h o (Array.mem_of_getElem? ho)
 rw[hc]at this
 cases this
end
end Go.Proofs.YtojmeodoenkapaaGreatDoor
