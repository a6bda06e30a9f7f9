/- Part of a proof. -/
import Derived.Test.YtojmeodoenkapaaGreatDoorChainPushesPa
import Derived.Laws.StructEq
import Derived.Laws.OwnMore
import Derived.Deep.WholeRow
import Derived.Deep.Strs
import Derived.WalkKit
import Derived.ProofKit
import Derived.Handy
import Derived.Lib.SlBytesConst
import Derived.Deep.MidRow
import Derived.Laws.CopyOwn
import Derived.Laws.MakeOwn
import Derived.Deep.Cut
import Derived.Deep.QuietTactic
import Derived.BigQuiet
import Derived.StillTailTactics
import Derived.Lib.Hide
import Derived.ChangeKeysEq
import Derived.Deep.RegionHeld3
import Derived.Deep.DrawnRows
import Derived.Deep.RegionLaw
import Derived.Deep.DeepCutAuto
import Derived.BigRegion
import Derived.RegionTactic
import Derived.Scope
import Derived.ScopeJumps
import Derived.WalkMore
open Go.Proofs.Tryz
namespace Go.Proofs.YtojmeodoenkapaaGreatDoor
set_option maxRecDepth 20000
set_option maxHeartbeats 8000000
set_option linter.unusedVariables false
set_option linter.unusedSimpArgs false
open Go.RowKit
def j11(t:Tot):List Value:=(j0d 32 t.h).toList++((wcs t.w).toList++[.int .i64 t.n])
def okT(t:Tot):Prop:=(t.h.length=32∧ ∀b∈t.h,0≤b∧b≤255)∧t.w<Big∧ -9223372036854775808≤t.n∧t.n≤9223372036854775807
def j0E(t:Tot):Array Value:=(j11 t).toArray
def j3j(t:Tot):Value:= .agg (j0E t)
def j2z(t:Tot):Prop:=t.h.length=32
theorem j0g{h:List Int}(hh:h.length=32):(j0d 32 h).toList.length=32:=by rw[Array.length_toList];exact j0c _ _ (by omega)
theorem j1j(w:Nat):(wcs w).toList.length=4:=by rw[Array.length_toList];exact j0s w
theorem j16{t:Tot}(h:j2z t):(j11 t).length=37:=by
 unfold j11
 rw[lA,lA,j0g h,j1j]
 rfl
theorem j0Z{t:Tot}(h:j2z t):(j0E t).size=37:=by unfold j0E;rw[List.size_toArray,j16 h]
theorem j2o{a:Array Value}(h:a.all (·.oneCell')=true): ∀u∈a.toList,u.oneCell'=true:=fun u hu=>by
 obtain⟨i,hi,rfl⟩:=Array.mem_iff_getElem.1 (Array.mem_toList_iff.1 hu)
 exact Array.all_eq_true.1 h i hi
theorem j22(t:Tot): ∀u∈j11 t,u.oneCell'=true:=by
 intro u hu
 unfold j11 at hu
 rcases List.mem_append.1 hu with h|h
 · exact j2o (j0Q 32 _) u h
 · rcases List.mem_append.1 h with h|h
   · exact j2o (j1v _) u h
   · cases mS.1 h
     rfl
theorem j3G(t:Tot):(j0E t).all (·.oneCell')=true:=by
 rw[Array.all_eq_true]
 intro i hi
 exact j22 t _ (show (j0E t)[i]∈(j0E t).toList from Array.mem_toList_iff.2 (Array.getElem_mem hi))
theorem aggTot:AggT 61 37:=⟨fun w=>by simp[isAgg,run_underlying underlying61],by kernel_rfl⟩
theorem j88:AggT 32 4:=⟨fun w=>by simp[isAgg,run_underlying underlying32],by kernel_rfl⟩
theorem aggIdT:AggT 26 32:=⟨fun w=>by simp[isAgg,run_underlying underlying26],by kernel_rfl⟩
def j3i:Tot:=⟨[],0,0⟩
theorem elTot:ElemT 38 61 37 72 (j3j j3i):=⟨underlying38,by kernel_rfl,by decide+kernel,by decide,by decide,by decide⟩
theorem q3K{t:Tot}(h:j2z t):((j0E t).toList.drop 0).take 32=(j0d 32 t.h).toList:=by
 unfold j0E j11
 rw[List.drop_zero,List.take_left' (j0g h)]
theorem q7A{t:Tot}(h:j2z t):((j0E t).toList.drop 32).take 4=(wcs t.w).toList:=by
 unfold j0E j11
 rw[List.drop_left' (j0g h),List.take_left' (j1j _)]
theorem q31{t:Tot}(h:j2z t):(j0E t)[36]?=some (.int .i64 t.n):=by
 unfold j0E j11
 rw[List.getElem?_toArray,List.getElem?_append_right (by rw[j0g h];omega),j0g h,List.getElem?_append_right (by rw[j1j];omega),j1j]
 rfl
theorem j2h(a:Array Value):Value.agg a.toList.toArray= .agg a:=by rw[Array.toArray_toList]
section
variable {w0 u:World}{M:j0e}{g:Nat}{ty:TypeId}{t:Tot}
theorem x1H(hu:EnvC w0 M u)(hm:(g,oc (j0E t) ty)∈M)(h:j2z t):(loadVar 61 ⟨g,0,none⟩).run Tryz.prog u= .ok (j3j t) u:=by
 have:=j2s aggTot (k:=0) hu hm (j11 t) (j16 h) (by unfold j0E;rw[List.drop_zero,tL (by rw[j16 h];omega)])
 exact this
instance:Cell Tryz.prog (j0E t) 61 0 (j3j t) (j2z t):=⟨fun hu hm k=>x1H hu hm k⟩
theorem q93(hu:EnvC w0 M u)(hm:(g,oc (j0E t) ty)∈M)(h:j2z t):(loadVar 26 ⟨g,0,none⟩).run Tryz.prog u= .ok (idv t.h) u:=by
 have:=j2s aggIdT (k:=0) hu hm _ (j0g h) (q3K h)
 rwa[j2h]at this
instance:Cell Tryz.prog (j0E t) 26 0 (idv t.h) (j2z t):=⟨fun hu hm k=>q93 hu hm k⟩
theorem q8Q(hu:EnvC w0 M u)(hm:(g,oc (j0E t) ty)∈M)(h:j2z t):(loadVar 32 ⟨g,32,none⟩).run Tryz.prog u= .ok (.agg (wcs t.w)) u:=by
 have:=j2s j88 (k:=32) hu hm _ (j1j _) (q7A h)
 rwa[j2h]at this
instance:Cell Tryz.prog (j0E t) 32 32 (.agg (wcs t.w)) (j2z t):=⟨fun hu hm k=>q8Q hu hm k⟩
theorem q8K(hu:EnvC w0 M u)(hm:(g,oc (j0E t) ty)∈M)(h:j2z t):(loadVar 3 ⟨g,36,none⟩).run Tryz.prog u= .ok (.int .i64 t.n) u:=
 j0f j1S u (j0n hu hm (q31 h))
instance:Cell Tryz.prog (j0E t) 3 36 (.int .i64 t.n) (j2z t):=⟨fun hu hm k=>q8K hu hm k⟩
end
theorem j5s{h:List Int}{w:Nat}{n:Int}(hh:h.length=32):Tryz.prog.built 61 [(0,idv h),(1, .agg (wcs w)),(2, .int .i64 n)]=some (j0E ⟨h,w,n⟩):=by
 have hs:(j0d 32 h).size=32:=j0c _ _ (by omega)
 have hw:=j0s w
 have e:j0J [(0,idv h),(1, .agg (wcs w)),(2, .int .i64 n)]=j11 ⟨h,w,n⟩:=by simp[j0J,j11,idv,Value.cells]
 have:=j2m (t:=61) (n:=37) underlying61 (by kernel_rfl) (places:=[(0,32),(32,4),(36,1)]) (by kernel_rfl) (ps:=[(0,idv h),(1, .agg (wcs w)),(2, .int .i64 n)]) (by
  refine⟨?_,?_,?_,trivial⟩
  · show some (0,32)=some (0,(j0d 32 h).size)
    rw[hs]
  · show some (32,4)=some (0+(j0d 32 h).size,(wcs w).size)
    rw[hs,hw]
  · show some (36,1)=some (0+(j0d 32 h).size+(wcs w).size,1)
    rw[hs,hw]) (by rw[e,j16 (t:=⟨h,w,n⟩) hh])
 rw[this,e]
 rfl
def TotsIn(w:World)(B:Nat)(A:Option Addr)(l:List Tot):Prop:=CellsIn w B A (l.map j11).flatten
def okTs(l:List Tot):Prop:= ∀t∈l,okT t
theorem okT.len{t:Tot}(h:okT t):j2z t:=h.1.1
theorem x3U{l:List Tot}(h:okTs l):isRows 37 (l.map j11):=fun x hx=>by
 obtain⟨t,ht,rfl⟩:=List.mem_map.1 hx
 exact j16 (h t ht).len
theorem okTs.get{l:List Tot}(h:okTs l){i:Nat}(hi:i<l.length):okT (l.getD i noTot):=by
 rw[gD,gE hi]
 exact h _ (List.getElem_mem hi)
theorem okTs.take{l:List Tot}(h:okTs l)(k:Nat):okTs (l.take k):=fun x hx=>h x (List.mem_of_mem_take hx)
theorem q4m{w:World}{B:Nat}{A:Option Addr}{l:List Tot}(h:TotsIn w B A l)(hl:okTs l){i:Nat}(hi:i<l.length):
  ∃ad,A=some ad∧ad.block<B∧ ∀j v,(j11 (l.getD i noTot))[j]?=some v→w.cell? ((ad.add (i*37)).add j)=some v:=by
 have hR:=x3U hl
 have hfl:=hR.flat_len
 rw[lM]at hfl
 obtain⟨ad,e,hb,hc⟩:=h (by rw[hfl];omega)
 refine⟨ad,e,hb,fun j v hv=>?_⟩
 rw[j4Y]
 refine hc (i*37+j) v ?_
 have hj:j<37:=by
  rcases Nat.lt_or_ge j 37 with h'|h'
  · exact h'
  · rw[gN (by rw[j16 (hl.get hi).len];exact h')]at hv
    cases hv
 rw[hR.flat_get i j (by rw[lM];exact hi) hj]
 rw[gD,List.getElem?_map,gE hi]
 rw[gD,gE hi]at hv
 exact hv
theorem TotsIn.loads{w:World}{A:Option Addr}{l:List Tot}(h:TotsIn w w.heap.size A l)(hl:okTs l){k:Nat}(hk:k<l.length): ∃ad,A=some ad∧ ∀u,EnvX w u []→
   (loadVar 61 (ad.add (k*37))).run Tryz.prog u= .ok (j3j (l.getD k noTot)) u∧
   (loadVar 26 (ad.add (k*37))).run Tryz.prog u= .ok (idv (l.getD k noTot).h) u∧
   (loadVar 32 ((ad.add (k*37)).add 32)).run Tryz.prog u= .ok (.agg (wcs (l.getD k noTot).w)) u∧
   (loadVar 3 ((ad.add (k*37)).add 36)).run Tryz.prog u= .ok (.int .i64 (l.getD k noTot).n) u:=by
 obtain⟨ad,e,hb,hc⟩:=q4m h hl hk
 refine⟨ad,e,fun u hu=>?_⟩
 have h32:=(hl.get hk).len
 have hbl: ∀(a:Addr)(j:Nat),(a.add j).block=a.block:=fun a j=>by unfold Addr.add;split<;>rfl
 have hcu: ∀j v,(j11 (l.getD k noTot))[j]?=some v→u.cell? ((ad.add (k*37)).add j)=some v:=fun j v hv=>by
   rw[←hc j v hv]
   exact(EnvX.bel hu).cell (by rw[hbl,hbl];exact hb)
 have hadd0: ∀a:Addr,a.add 0=a:=fun a=>by unfold Addr.add;rfl
 generalize l.getD k noTot=t at *
 refine⟨j0F aggTot (j11 t) (j16 h32) hcu,?_,?_,?_⟩
 · have:=j0F aggIdT (w:=u) (ad:=ad.add (k*37)) _ (j0g h32) (fun j v hv=>hcu j v (by
    unfold j11
    rw[List.getElem?_append_left (by
     rcases Nat.lt_or_ge j (j0d 32 t.h).toList.length with h'|h'
     · exact h'
     · rw[gN h']at hv;cases hv)]
    exact hv))
   rwa[j2h]at this
 · have:=j0F j88 (w:=u) (ad:=(ad.add (k*37)).add 32) _ (j1j t.w) (fun j v hv=>by
    rw[j4Y]
    refine hcu (32+j) v ?_
    unfold j11
    have hj:j<(wcs t.w).toList.length:=by
     rcases Nat.lt_or_ge j (wcs t.w).toList.length with h'|h'
     · exact h'
     · rw[gN h']at hv;cases hv
    rw[List.getElem?_append_right (by rw[j0g h32];omega),j0g h32,List.getElem?_append_left (by omega),show 32+j- 32=j by omega]
    exact hv)
   rwa[j2h]at this
 · refine j0f j1S u (hcu 36 _ ?_)
   have:=q31 h32
   unfold j0E at this
   rwa[List.getElem?_toArray]at this
theorem j1e(d:Nat)(xs ys:List Int)(hx:xs.length=32)(hy:ys.length=32)(w:World):(Op.equalIn (d+2) 26 (.agg (j0d 32 xs)) (.agg (j0d 32 ys))).run Tryz.prog w= .ok (eqL xs ys) w:=by
 cases hq:Tryz.prog.info? 5 with
 |none=>have:=q4R;rw[hq]at this;cases this
 |some i=>
  have h:=run_equalIn_array (P:=Tryz.prog) w (d+1) (j0d 32 xs) (j0d 32 ys) underlying26 hq
  rw[q7g,j7U d xs ys hx hy w (List.range 32) (by simp)]at h
  have e:decide (∀i∈List.range 32,xs.getD i 0=ys.getD i 0)=eqL xs ys:=decide_eq_decide.2 (j7f xs ys hx hy)
  rw[e]at h
  exact h
theorem j3b(d:Nat)(m n:Nat)(hm:m<Big)(hn:n<Big)(w:World):(Op.equalIn (d+2) 32 (.agg (wcs m)) (.agg (wcs n))).run Tryz.prog w= .ok (eqN m n) w:=by
 cases hq:Tryz.prog.info? 24 with
 |none=>
  have:(Tryz.prog.info? 24).isSome=true:=by kernel_rfl
  rw[hq]at this
  cases this
 |some i=>
  have h:=run_equalIn_array (P:=Tryz.prog) w (d+1) (wcs m) (wcs n) underlying32 hq
  rw[q21,j55 d m n w (List.range 4) (by simp)]at h
  have e:decide (∀i∈List.range 4,W m i=W n i)=eqN m n:=decide_eq_decide.2 (j6J m n hm hn)
  rw[e]at h
  exact h
theorem q5Z:(Tryz.prog.fieldsOf 61).toList.map (fun f=>(f.name== "_",f.type,f.offset))=[(false,26,0),(false,32,32),(false,3,36)]:=by kernel_rfl
def eqT(a b:Tot):Bool:=decide (a=b)
theorem j0U{e:TypeId}{z:Nat}(D:AggT e z){cs v:Array Value}{off:Nat}(hv:cs.extract off (off+z)=v)(w:World):(part e cs off).run Tryz.prog w= .ok (.agg v) w:=by
 have hs:=D.size
 cases hq:Tryz.prog.info? e with
 |none=>rw[hq]at hs;cases hs
 |some k=>
  rw[hq]at hs
  simp only[Option.map_some,Option.some.injEq]at hs
  have hsz:(sizeOf e).run Tryz.prog w= .ok z w:=by simp[sizeOf,typeInfo,hq,hs]
  simp[part,D.agg,hsz,hv]
theorem j1L{a:Array Value}{k z:Nat}{l:List Value}(h:(a.toList.drop k).take z=l):a.extract k (k+z)=l.toArray:=by
 apply Array.ext'
 rw[Array.toList_extract,←h]
 simp[List.extract_eq_take_drop]
theorem j0r{d:Nat}{xs ys:Array Value}{f:Field}{fs:List Field}{w:World}{a b:Value}{r:Bool}(hn:f.name≠ "_")(pa:(part f.type xs f.offset).run Tryz.prog w= .ok a w)(pb:(part f.type ys f.offset).run Tryz.prog w= .ok b w)
  (hr:(Op.equalIn d f.type a b).run Tryz.prog w= .ok r w):(Op.eqFields d xs ys (f::fs)).run Tryz.prog w=if r=true then (Op.eqFields d xs ys fs).run Tryz.prog w else .ok false w:=by
 rw[Op.eqFields,if_pos hn]
 simp only[Sem.run_bind,pa,pb,hr,Result.andThen_ok]
 cases r with
 |false=>rfl
 |true=>rfl
theorem j9B(a b:Tot)(ha:okT a)(hb:okT b)(w:World):(Op.equal 61 (j3j a) (j3j b)).run Tryz.prog w= .ok (eqT a b) w:=by
 unfold Op.equal j3j
 have h:=run_equalIn_struct (P:=Tryz.prog) w 9999 61 (j0E a) (j0E b) (by kernel_rfl) (by kernel_rfl)
 refine Eq.trans h ?_
 have hf:=q5Z
 generalize (Tryz.prog.fieldsOf 61).toList=fs at hf ⊢
 have hl:fs.length=3:=by simpa using congrArg List.length hf
 obtain⟨f1,f2,f3,rfl⟩: ∃f1 f2 f3,fs=[f1,f2,f3]:=by
  match fs,hl with
  |[a,b,c],_=>exact⟨a,b,c,rfl⟩
 simp only[List.map_cons,List.map_nil,List.cons.injEq,Prod.mk.injEq,beq_eq_false_iff_ne,and_true]at hf
 obtain⟨⟨n1,t1,o1⟩,⟨n2,t2,o2⟩,n3,t3,o3⟩:=hf
 have pH: ∀t:Tot,j2z t→(part 26 (j0E t) 0).run Tryz.prog w= .ok (.agg (j0d 32 t.h)) w:=fun t ht=>j0U aggIdT (by have:=j1L (q3K ht);rwa[Array.toArray_toList]at this) w
 have pW: ∀t:Tot,j2z t→(part 32 (j0E t) 32).run Tryz.prog w= .ok (.agg (wcs t.w)) w:=fun t ht=>j0U j88 (by have:=j1L (q7A ht);rwa[Array.toArray_toList]at this) w
 have pN: ∀t:Tot,j2z t→(part 3 (j0E t) 36).run Tryz.prog w= .ok (.int .i64 t.n) w:=fun t ht=>run_part_plain (P:=Tryz.prog) w (by kernel_rfl) (q31 ht)
 have e1:=j1e 9997 a.h b.h ha.1.1 hb.1.1 w
 have e2:=j3b 9997 a.w b.w ha.2.1 hb.2.1 w
 have e3:=run_equalIn_int (P:=Tryz.prog) w 9998 3 .i64 .i64 a.n b.n underlying3
 have hd:eqT a b=(eqL a.h b.h&& (eqN a.w b.w&& (a.n==b.n))):=by
  unfold eqT eqL eqN
  rw[Bool.eq_iff_iff]
  simp only[decide_eq_true_eq,Bool.and_eq_true,beq_iff_eq]
  exact⟨fun h=>by subst h;exact⟨rfl,rfl,rfl⟩,fun h=>Tot.ext' h.1 h.2.1 h.2.2⟩
 rw[hd]
 rw[j0r (a:= .agg (j0d 32 a.h)) (b:= .agg (j0d 32 b.h)) n1 (by rw[t1,o1];exact pH a ha.len) (by rw[t1,o1];exact pH b hb.len) (by rw[t1];exact e1)]
 cases eqL a.h b.h with
 |false=>rfl
 | true=>
  rw[if_pos rfl,j0r (a:= .agg (wcs a.w)) (b:= .agg (wcs b.w)) n2 (by rw[t2,o2];exact pW a ha.len) (by rw[t2,o2];exact pW b hb.len) (by rw[t2];exact e2)]
  cases eqN a.w b.w with
  |false=>rfl
  |true=>
   rw[if_pos rfl,j0r (a:= .int .i64 a.n) (b:= .int .i64 b.n) n3 (by rw[t3,o3];exact pN a ha.len) (by rw[t3,o3];exact pN b hb.len) (by rw[t3];exact e3)]
   cases hab:(a.n==b.n)with
   |false=>rfl
   |true=>rfl
theorem elB:ElemT 100 5 1 1 (.int .u8 0):=⟨underlying100,by kernel_rfl,rfl,by decide,by decide,by decide⟩
section
variable {a:Act}{dst:Option Tmp}{x:Operand}{ty:TypeId}{pos:String}{after:Array Edge}{gd:Option (Nat × Bool)}
theorem j1R{ad:Addr}(u:World)(hx:a.eval x= .pointer (some ad)):
  (execOp a.eval ⟨dst, .slice 26 x none none none,ty,pos,after,gd⟩).run Tryz.prog u= .ok (.value (.slice (some ad) 32 32)) u:=by
 unfold execOp
 simp only[hx]
 go_simp
end
section
variable {st e:TypeId}{z bytes:Nat}{zero:Value}
def j53(u:World)(ad:Addr)(ys:List Value):Prop:= ∀j c,ys[j]?=some c→u.cell? (ad.add j)=some c
theorem j1p{w0 u:World}{M:j0e}{g:Nat}{t:TypeId}{cs:Array Value}{ys:List Value}(hu:EnvC w0 M u)(hm:(g,oc cs t)∈M){k:Nat}(h:(cs.toList.drop k).take ys.length=ys):j53 u ⟨g,k,none⟩ ys:=by
 intro j c hc
 rw[Addr.add_mid]
 refine j0n hu hm ?_
 have hj:j<ys.length:=by
  rcases Nat.lt_or_ge j ys.length with h'|h'
  · exact h'
  · rw[gN h']at hc;cases hc
 rw[←h,List.getElem?_take_of_lt hj,List.getElem?_drop,Array.getElem?_toList]at hc
 exact hc
theorem j1H(T:ElemT st e z bytes zero){w0 u:World}{M:j0e}(M0:j0e){N:j0e}{n m c:Nat}{xs:List Value}{v:Value}{ys:List Value}{ad:Addr}{a:Act}{dst:Option Tmp}{y x:Operand}{pos:String}{after:Array Edge}{gd:Option (Nat × Bool)}
   (hu:EnvX w0 u M) (hl:xs.length=n*z) (hy:ys.length=m*z) (h1: ∀u∈ys,u.oneCell'=true) (hF:FreshR e z n xs v N) (hN: ∀y∈N,y∈M∧w0.heap.size≤y.1) (hc:j53 u ad ys) (hM0: ∀z∈M0,z∈M∧ ∀y∈N,z.1≠y.1) (hs:n+m≤2000000)
   (hyv:a.eval y=v) (hx:a.eval x= .slice (some ad) m c):
   ∃v' u' M',(execOp a.eval ⟨dst, .call {callee:= .builtin .append,args:= #[y,x],argTypes:= #[st,st]},st,pos,after,gd⟩).run Tryz.prog u= .ok (.value v') u'∧EnvX w0 u' M'∧j1N w0 e z (n+m) (xs++ys) M0 v' M':=by
 have hown:u.ownsRow w0.heap.size e z v n xs:=hF.own hl (fun y hy=>⟨(hN y hy).2,hu.box _ _ (hN y hy).1⟩)
 obtain⟨v',u',hrun,hown',hgr,hob⟩:=q2t T (c:=c) hown hy hc h1 hs hu.bel.size
 obtain⟨N',hF',hN'⟩:=j2i hown'
 refine⟨v',u',N'++M0,?_,?_,N',rfl,hF',?_⟩
 · unfold execOp
   simp only[resolve,invoke,builtin,Sem.run_bind,Sem.run_pure,Result.andThen_ok,List.map_toArray,List.map_cons,List.map_nil,hyv,hx,hrun]
 · have hbel:Below w0.heap.size u u':=j1B hgr (fun r hr=>(hown.lt r hr).1) hu.bel.size
   refine⟨hu.bel.trans hbel,fun g' o hm=>?_⟩
   rcases List.mem_append.1 hm with e|e
   · exact(hN' _ e).2.1
   · have hin:=hM0 _ e
     rw[hgr.block g' (hu.lt hin.1) (fun e2=>by
      obtain⟨o2,ho2⟩:=hF.block g' e2.symm
      exact hin.2 _ ho2 rfl)]
     exact hu.box _ _ hin.1
 · intro y hy
   refine⟨(hN' y hy).1,fun z hz e=>?_⟩
   have hb:=(hN' y hy).2.2
   have hin:=hM0 z hz
   rcases hob with h|h
   · obtain⟨o2,ho2⟩:=hF.block y.1 (h.symm.trans hb)
     exact hin.2 _ ho2 e
   · have h1:=hu.lt (g:=z.1) (o:=z.2) hin.1
     have h2:u.heap.size=y.1:=Option.some.inj (h.symm.trans hb)
     omega
theorem x0Q(T:ElemT st e z bytes zero){u:World}{m c:Nat}{ys:List Value}{ad:Addr}{a:Act}{dst:Option Tmp}{x:Operand}{pos:String}{after:Array Edge}{gd:Option (Nat × Bool)}
  (hy:ys.length=m*z) (h1: ∀u∈ys,u.oneCell'=true) (hc:j53 u ad ys) (hs:m≤2000000) (hx:a.eval x= .slice (some ad) m c):
  FAt Tryz.prog ⟨dst, .call {callee:= .builtin .append,args:= #[.const (.slice none 0 0),x],argTypes:= #[st,st]},st,pos,after,gd⟩ a (FreshR e z m ys) u:=by
 have he:a.eval (.const (.slice none 0 0))= .slice none 0 0:=rfl
 obtain⟨v',u',hrun,hown,hgr,_⟩:=q2t T (c:=c) (World.ownsRow_nil u u.heap.size e z) hy hc h1 (by omega) (Nat.le_refl _)
 rw[Nat.zero_add,List.nil_append]at hown
 obtain⟨N,hF',hN'⟩:=j2i hown
 unfold FAt execOp
 simp only[resolve,invoke,builtin,Sem.run_bind,Sem.run_pure,Result.andThen_ok,List.map_toArray,List.map_cons,List.map_nil,he,hx,hrun]
 exact⟨j1B hgr (fun g hg=>by cases hg) (Nat.le_refl _),N,hF',fun y hy=>⟨(hN' y hy).1,(hN' y hy).2.1⟩⟩
end
theorem q1m{P:Program}{a:Act}{x:Operand}{f:FuncId}{caps args all:Array Value}{xs:Array Operand}{ats:Array TypeId}{fn:Func}{c:Code}{dst:Option Tmp}{ty:TypeId}{pos:String}{after:Array Edge}{gd:Option (Nat × Bool)}(hx:a.eval x= .func (.func f) #[] caps)(hargs:xs.toList.map a.eval=args.toList)
  (hall:args.toList++caps.toList=all.toList) (hfn:P.funcs[f]?=some fn) (hname:(fn.name== "runtime.NumGoroutine")=false) (hb:fn.body=some c) (u:World):
  (execOp a.eval ⟨dst, .call {callee:= .value x,args:=xs,argTypes:=ats},ty,pos,after,gd⟩).run P u= .ok (.enter f all) u:=by
 have ha:xs.map a.eval=args:=by
  apply Array.ext'
  rw[Array.toList_map]
  exact hargs
 have h2:args++caps=all:=by
  apply Array.ext'
  rw[Array.toList_append]
  exact hall
 unfold execOp
 simp only[resolve,hx,ha,Deferred.ofValue,invoke,Sem.run_bind,Sem.run_pure,Result.andThen_ok,Array.empty_append,h2]
 exact j5P hfn hname hb _ u
section
variable {P:Program}{Γ:HP}{l:List Oper}{C:World→Prop}{Q:Act→Prop}{a:Act}{i:Nat}{rest:List Nat}{dst:Option Tmp}{ty:TypeId}{pos:String}{after:Array Edge}{gd:Option (Nat × Bool)}
theorem j0I{f:FuncId}{x:Operand}{xs:Array Operand}{ats:Array TypeId}{fn:Func}{c:Code}{v:Value}{args caps all:Array Value}(ho:l[i]?=some ⟨dst, .call {callee:= .value x,args:=xs,argTypes:=ats},ty,pos,after,gd⟩)
  (hw:Region.wanted ⟨dst, .call {callee:= .value x,args:=xs,argTypes:=ats},ty,pos,after,gd⟩ (yielded l.toArray a.tmps)=true)
  (hx:a.eval x= .func (.func f) #[] caps) (hargs:xs.toList.map a.eval=args.toList) (hall:args.toList++caps.toList=all.toList) (hfn:P.funcs[f]?=some fn) (hname:(fn.name== "runtime.NumGoroutine")=false) (hb:fn.body=some c)
  (hcall: ∀u,C u→Calls P f all u (fun e w''=>e= .returned v∧Below u.heap.size u w''))
  (h: ∀K:Act→Prop,(∀a,wpG P l C Q rest a→K a)→Oper.quiet P ⟨dst, .move (.const v),ty,pos,after,gd⟩ a C K) {u0:World} (h0:C u0):wpG P l C Q (i::rest) a:=by
 refine⟨?_⟩
 unfold j4C
 simp only[ho]
 rw[if_pos hw]
 obtain⟨v',hv,hK⟩:=h (j4C P l C Q rest) (fun _ h=>h.out)
 have e:v'=v:=by
  have h1:=hv u0 h0
  unfold Oper.quietAt execOp at h1
  exact h1.2.symm
 rw[e]at hK
 refine⟨v,fun u hu=>?_,hK⟩
 unfold GAt
 rw[q1m hx hargs hall hfn hname hb u]
 exact⟨rfl,hcall u hu⟩
theorem j33{P:Program}{ops:Array Oper}{w0:World}{i:Nat}{K:Act→j0e→Prop}{a:Act}{M:j0e}{ty:TypeId}{pos:String}{after:Array Edge}{ty':TypeId}{x y:Operand}(ho:ops[i]?=some ⟨none, .store ty' x y,ty,pos,after,none⟩)
 (g k:Nat) (v:Value) (hx:a.eval x= .pointer (some ⟨g,k,none⟩)) (hy:a.eval y=v) (hg:w0.heap.size≤g) (t:TypeId) (old cs:Array Value) (hm:(g,oc old t)∈M)
 (hi:(P.info? ty').map (·.size)=some v.cells.size) (hk:k+v.cells.size≤old.size) (h1:v.cells.all (·.oneCell')=true) (hcs:old.toList.take k++v.cells.toList++old.toList.drop (k+v.cells.size)=cs.toList) (M':j0e) (hM': ∀x∈M',x=(g,oc cs t)∨(x∈M∧x.1≠g))
 (h:(∃u,EnvX w0 u M')→K a M') (hkeep: ∀x∈Γ.keep i,x∈M→x∈M':=by exact q2q):hOp (Γ:=Γ) P ops w0 i K a M:=q2K ho g k v hx hy hg t old cs hm hi hk h1 hcs M' hM' h hkeep
end
section
variable {a:Act}{dst:Option Tmp}{x y:Operand}{ty:TypeId}{pos:String}{after:Array Edge}{gd:Option (Nat × Bool)}
theorem j7l{e:TypeId}{z:Nat}(h:(Tryz.prog.info? e).map (·.size)=some z)(u:World):(sizeOf e).run Tryz.prog u= .ok z u:=by
 cases hq:Tryz.prog.info? e with
 |none=>rw[hq]at h;cases h
 |some k=>
  rw[hq]at h
  simp only[Option.map_some,Option.some.injEq]at h
  simp[sizeOf,typeInfo,hq,h]
theorem j7e{t e:TypeId}{len z:Nat}(hu:Tryz.prog.underlying t=some (.array len e))(hz:(Tryz.prog.info? e).map (·.size)=some z){g o i:Nat}(hi:i<len)(u:World)
  (hx:a.eval x= .pointer (some ⟨g,o,none⟩)) (hy:a.eval y= .int .i64 (i:Int)):
  (execOp a.eval ⟨dst, .indexAddr t x y,ty,pos,after,gd⟩).run Tryz.prog u= .ok (.value (.pointer (some ⟨g,o+i*z,none⟩))) u:=by
 have hl:Tryz.prog.arrayLen t=len:=by simp[Program.arrayLen,hu]
 have he:Tryz.prog.elem t=e:=by simp[Program.elem,hu]
 have hr:=run_indexAt_array (P:=Tryz.prog) u t ⟨g,o,none⟩ .i64 (i:Int) (by rw[hl,he];exact hu)
 rw[hl,he,if_pos ⟨by omega,by omega⟩,j7l hz u,Result.andThen_ok,Int.toNat_natCast,Addr.add_mid]at hr
 unfold execOp
 simp only[hx,hy,Sem.run_bind,Sem.run_pure,hr,Result.andThen_ok]
theorem j0h{t e:TypeId}{z:Nat}(hu:Tryz.prog.underlying t=some (.slice e))(hz:(Tryz.prog.info? e).map (·.size)=some z){ad:Addr}{n c i:Nat}(hi:i<n)(u:World)
  (hx:a.eval x= .slice (some ad) n c) (hy:a.eval y= .int .i64 (i:Int)):
  (execOp a.eval ⟨dst, .indexAddr t x y,ty,pos,after,gd⟩).run Tryz.prog u= .ok (.value (.pointer (some (ad.add (i*z))))) u:=by
 have he:Tryz.prog.elem t=e:=by simp[Program.elem,hu]
 have hr:=run_indexAt_slice (P:=Tryz.prog) u t ad n c .i64 (i:Int) (by rw[he];exact hu)
 rw[he,if_pos ⟨by omega,by omega⟩,j7l hz u,Result.andThen_ok,Int.toNat_natCast]at hr
 unfold execOp
 simp only[hx,hy,Sem.run_bind,Sem.run_pure,hr,Result.andThen_ok]
theorem j0l{t e:TypeId}(hu:Tryz.prog.underlying t=some (.slice e)){A:Option Addr}{n c:Nat}(hn:n<9223372036854775808)(u:World)(hx:a.eval x= .slice A n c):
  (execOp a.eval ⟨dst, .call {callee:= .builtin .len,args:= #[x],argTypes:= #[t]},ty,pos,after,gd⟩).run Tryz.prog u= .ok (.value (.int .i64 (n:Int))) u:=by
 have he:Tryz.prog.elem t=e:=by simp[Program.elem,hu]
 have hr:=run_len_slice (P:=Tryz.prog) u t ty A n c (by rw[he];exact hu)
 have hg:goInt n= .int .i64 (n:Int):=rfl
 unfold execOp
 simp only[resolve,invoke,builtin,Sem.run_bind,Sem.run_pure,Result.andThen_ok,List.map_toArray,List.map_cons,List.map_nil,hx,hr,hg]
theorem q5V{t:TypeId}{z:Value}{n:Nat}(h:(Tryz.prog.info? t).map (fun i=>(i.zero,i.size))=some (some z,n))(a:Act):j3r Tryz.prog ⟨dst, .alloc t,ty,pos,after,gd⟩ a (.cells z.cells t (0,0)):=fun u=>by
 have hz:=(zero_of_info h).1
 unfold execOp
 simp[Instr.alloc,hz,newVar,newRow]
end
theorem x3N{xs:List Int}: ∀u∈xs.map u8v,u.oneCell'=true:=fun u hu=>by
 obtain⟨z,_,rfl⟩:=List.mem_map.1 hu
 rfl
theorem EnvX.three{w:World}(o1 o2 o3:Obj):EnvX w (((w.alloc o1).alloc o2).alloc o3) [(w.heap.size+1+1,o3),(w.heap.size+1,o2),(w.heap.size,o1)]:=by
 have h:=((EnvX.start w).two o1 o2).new o3
 have hs:((w.alloc o1).alloc o2).heap.size=w.heap.size+1+1:=by simp
 rw[hs]at h
 exact h
theorem j3R:(#[Value.int .u8 0,Value.int .u8 0,Value.int .u8 0,Value.int .u8 0,Value.int .u8 0,Value.int .u8 0,Value.int .u8 0,Value.int .u8 0,Value.int .u8 0,Value.int .u8 0,Value.int .u8 0,Value.int .u8 0,Value.int .u8 0,Value.int .u8 0,Value.int .u8 0,Value.int .u8 0,Value.int .u8 0,Value.int .u8 0,Value.int .u8 0,Value.int .u8 0,Value.int .u8 0,Value.int .u8 0,Value.int .u8 0,Value.int .u8 0,Value.int .u8 0,Value.int .u8 0,Value.int .u8 0,Value.int .u8 0,Value.int .u8 0,Value.int .u8 0,Value.int .u8 0,Value.int .u8 0,Value.int .u64 0,Value.int .u64 0,Value.int .u64 0,Value.int .u64 0,Value.int .i64 0]:Array Value)=j0E j3i:=by kernel_rfl
theorem j87:(#[Value.int .u64 0,Value.int .u64 0,Value.int .u64 0,Value.int .u64 0]:Array Value)=wcs 0:=rfl
section
variable {a:Act}{dst:Option Tmp}{x y z:Operand}{ty:TypeId}{pos:String}{after:Array Edge}{gd:Option (Nat × Bool)}
theorem j2C{n:Int}{m:Nat}(u:World)(h:IntKind.u64.wrap n=(m:Int))(hx:a.eval x= .int .i64 n):
  (execOp a.eval ⟨dst, .convert 3 24 x,ty,pos,after,gd⟩).run Tryz.prog u= .ok (.value (.int .u64 (m:Int))) u:=by
 rw[←h]
 unfold execOp
 simp only[hx]
 go_simp
theorem j65(a:Act):j3r Tryz.prog ⟨dst, .alloc 32,ty,pos,after,gd⟩ a (.cells (wcs 0) 32 (0,0)):=fun u=>by
 rw[←j87]
 go_simp
theorem x1G(a:Act):j3r Tryz.prog ⟨dst, .alloc 61,ty,pos,after,gd⟩ a (.cells (j0E j3i) 61 (0,0)):=fun u=>by
 rw[←j3R]
 go_simp
theorem j39(k:Int)(u:World):FAt Tryz.prog ⟨dst, .buildSlice 100 1 #[(0, .const (.int .u8 k))],ty,pos,after,gd⟩ a (fun v N=> ∃g,v= .slice (some ⟨g,0,none⟩) 1 1∧N=[(g,oc #[.int .u8 k] 5)]) u:=by
 have h:(execOp a.eval ⟨dst, .buildSlice 100 1 #[(0, .const (.int .u8 k))],ty,pos,after,gd⟩).run Tryz.prog u= .ok (.value (.slice (some ⟨u.heap.size,0,none⟩) 1 1)) (u.alloc (.cells #[.int .u8 k] 5)):=by
  unfold execOp
  go_simp
 unfold FAt
 rw[h]
 refine⟨(Below.refl _ _).alloc (Nat.le_refl _) _,_,⟨_,rfl,rfl⟩,fun y hy=>?_⟩
 cases mS.1 hy
 exact⟨Nat.le_refl _,heap_alloc_new u _⟩
theorem j5V{A0 A1 A2:Option Addr}{n0 n1 n2 c0 c1 c2:Nat}(hx:a.eval x= .slice A0 n0 c0)(hy:a.eval y= .slice A1 n1 c1)(hz:a.eval z= .slice A2 n2 c2)(u:World):
  FAt Tryz.prog ⟨dst, .buildSlice 139 3 #[(0,x),(1,y),(2,z)],ty,pos,after,gd⟩ a (fun v N=> ∃g,v= .slice (some ⟨g,0,none⟩) 3 3∧N=[(g,oc #[.slice A0 n0 c0, .slice A1 n1 c1, .slice A2 n2 c2] 100)]) u:=by
 have h:(execOp a.eval ⟨dst, .buildSlice 139 3 #[(0,x),(1,y),(2,z)],ty,pos,after,gd⟩).run Tryz.prog u= .ok (.value (.slice (some ⟨u.heap.size,0,none⟩) 3 3)) (u.alloc (.cells #[.slice A0 n0 c0, .slice A1 n1 c1, .slice A2 n2 c2] 100)):=by
  unfold execOp
  simp only[List.map_toArray,List.map_cons,List.map_nil,hx,hy,hz]
  go_simp
 unfold FAt
 rw[h]
 refine⟨(Below.refl _ _).alloc (Nat.le_refl _) _,_,⟨_,rfl,rfl⟩,fun y hy=>?_⟩
 cases mS.1 hy
 exact⟨Nat.le_refl _,heap_alloc_new u _⟩
theorem x2U{m k:Int}(u:World)(hx:a.eval x= .int .i64 m)(hy:a.eval y= .int .i64 k):
  (execOp a.eval ⟨dst, .binOp .add 3 x y 3,ty,pos,after,gd⟩).run Tryz.prog u= .ok (.value (.int .i64 (IntKind.i64.wrap (m+k)))) u:=by
 unfold execOp
 simp only[hx,hy]
 go_simp
end
theorem j1F{h:List Int}(hh:h.length=32):(j0d 32 h).toList=h.map u8v:=by
 unfold j0d
 rw[hh]
 simp
theorem x4K{t:Tot}(h:j2z t):((j0E t).toList.drop 0).take (t.h.map u8v).length=t.h.map u8v:=by
 have:=q3K h
 rw[j1F h]at this
 rwa[lM,h]
theorem x4C(n:Nat):((j0d 32 (j3J (j1b n))).toList.drop 0).take ((j3J (j1b n)).map u8v).length=(j3J (j1b n)).map u8v:=by
 rw[j1F (j2w _),List.drop_zero,List.take_length]
theorem j1l{t:Tot}(h:j2z t):(j3D t).length=68:=by
 unfold j3D
 rw[lA,lA,j2w,j0S,h]
theorem j6d{t:Tot}(h:okT t): ∀x∈j3D t,0≤x∧x≤255:=fun x hx=>by
 unfold j3D at hx
 rcases List.mem_append.1 hx with e|e
 · exact h.1.2 x e
 · rcases List.mem_append.1 e with e|e
   · obtain⟨i,_,rfl⟩:=List.mem_map.1 e
     have:=q0J t.w i
     unfold j1b
     omega
   · exact j2N _ 4 x e
theorem j61{w0 u:World}{M:j0e}{g:Nat}{ty:TypeId}{n:Nat}(hu:EnvC w0 M u)(hm:(g,oc (wcs n) ty)∈M):(loadVar 32 ⟨g,0,none⟩).run Tryz.prog u= .ok (.agg (wcs n)) u:=by
 have:=j2s j88 (k:=0) hu hm (wcs n).toList (j1j n) (by rw[List.drop_zero,tL (by rw[j1j];omega)])
 rwa[j2h]at this
theorem j4i{w:World}{B g:Nat}{a a' a'':Option Addr}{c c' c'':Nat}{xs ys zs:List Int}(hg:g<B)(hc:w.cell? ⟨g,0,none⟩=some (.slice a xs.length c))(hx:Bytes w B a xs)(hr: ∀x∈xs,0≤x∧x≤255)
   (hc':w.cell? ⟨g,1,none⟩=some (.slice a' ys.length c')) (hy:Bytes w B a' ys) (hr': ∀x∈ys,0≤x∧x≤255) (hc'':w.cell? ⟨g,2,none⟩=some (.slice a'' zs.length c'')) (hz:Bytes w B a'' zs) (hr'': ∀x∈zs,0≤x∧x≤255):Parts w B (some ⟨g,0,none⟩) [xs,ys,zs]:=by
 intro k vs hk
 rcases k with _|_|_|k
 · obtain rfl:xs=vs:=by simpa using hk
   exact⟨g,0,a,c,rfl,hg,hc,hx,hr⟩
 · obtain rfl:ys=vs:=by simpa using hk
   exact⟨g,0,a',c',rfl,hg,hc',hy,hr'⟩
 · obtain rfl:zs=vs:=by simpa using hk
   exact⟨g,0,a'',c'',rfl,hg,hc'',hz,hr''⟩
 · simp at hk
theorem j06{w0 u:World}{M:j0e}{g cap n:Nat}{cur:Array Value}{xs:List Int}(hu:EnvC w0 M u)(hm:(g,oc cur 5)∈M)(hl:xs.length=n)(h:n≤cap∧cap≤maxLen∧cur.size=cap*1∧cur.toList.take (n*1)=xs.map u8v):Bytes u u.heap.size (some ⟨g,0,none⟩) xs:=by
 subst hl
 exact q7F hu hm h
theorem q1I(xs:List Int):(j4x xs).length=32∧ ∀x∈j4x xs,0≤x∧x≤255:=⟨j1V _,j3v _⟩
theorem join_ok{a b:Tot}:okT (j2t a b):=by
 refine⟨q1I _,Nat.mod_lt _ (by unfold Big;decide),?_⟩
 unfold j2t
 simp only
 rw[IntKind.wrap_i64]
 omega
theorem j2B(cs:Array Value)(h:cs.size=37):(Tryz.prog.info? 61).map (·.size)=some cs.size:=by rw[h];exact aggTot.size
theorem noTot_ok:okT noTot:=⟨q1I _,by unfold Big;decide,by decide,by decide⟩
theorem isRows.flat_take{z:Nat}{L:List (List Value)}(h:isRows z L)(k:Nat):(L.take k).flatten=L.flatten.take (k*z):=by
 induction L generalizing k with
 |nil=>simp
 | cons x L ih=>
  have hx:=h x (List.mem_cons_self ..)
  cases k with
  |zero=>simp
  |succ k=>
   have hk:(k+1)*z- z=k*z:=by rw[Nat.succ_mul];omega
   rw[List.take_succ_cons,List.flatten_cons,List.flatten_cons,ih (fun y hy=>h y (mT hy)),List.take_append,tL (by rw[hx,Nat.succ_mul];omega:x.length≤(k+1)*z),hx,hk]
theorem isRows.flat_drop{z:Nat}{L:List (List Value)}(h:isRows z L)(k:Nat):(L.drop k).flatten=L.flatten.drop (k*z):=by
 induction L generalizing k with
 |nil=>simp
 | cons x L ih=>
  have hx:=h x (List.mem_cons_self ..)
  cases k with
  |zero=>simp
  |succ k=>
   have hk:(k+1)*z- z=k*z:=by rw[Nat.succ_mul];omega
   rw[List.drop_succ_cons,List.flatten_cons,ih (fun y hy=>h y (mT hy)),List.drop_append,List.drop_of_length_le (by rw[hx,Nat.succ_mul];omega:x.length≤(k+1)*z),hx,hk,List.nil_append]
def j5d(z:Nat)(A:Option Addr)(l c:Nat):Option Addr:=if c=l then A else A.map (·.add (l*z))
theorem CellsIn.drop{w:World}{B:Nat}{A:Option Addr}{xs:List Value}(h:CellsIn w B A xs)(z k c:Nat)(hc:k<c∨xs.length≤k*z):CellsIn w B (j5d z A k c) (xs.drop (k*z)):=by
 intro hp
 rw[List.length_drop]at hp
 obtain⟨ad,rfl,hlt,hcell⟩:=h (by omega)
 have hne: ¬c=k:=by rcases hc with h|h<;>omega
 refine⟨ad.add (k*z),by simp[j5d,hne],by rw[j0N];exact hlt,fun j v hv=>?_⟩
 rw[j4Y]
 refine hcell (k*z+j) v ?_
 rwa[List.getElem?_drop]at hv
section
variable {st e:TypeId}{z bytes:Nat}{zero:Value}
theorem ElemT.elem(T:ElemT st e z bytes zero):Tryz.prog.elem st=e:=by simp[Program.elem,T.und]
theorem ElemT.sizeOf(T:ElemT st e z bytes zero)(w:World):(Go.sizeOf e).run Tryz.prog w= .ok z w:=by
 have h:=T.info
 cases hq:Tryz.prog.info? e with
 |none=>rw[hq]at h;cases h
 |some i=>
  rw[hq]at h
  simp only[Option.map_some,Option.some.injEq,Prod.mk.injEq]at h
  simp[Go.sizeOf,typeInfo,hq,h.2.1]
theorem q49(T:ElemT st e z bytes zero)(A:Option Addr)(n c h:Nat)(w:World)(h2:h≤c):
  (Instr.sliceAt st (.slice A n c) none (some (.int .i64 (h:Int))) none).run Tryz.prog w= .ok (.slice A h c) w:=by
 have ht':Tryz.prog.underlying st=some (.slice (Tryz.prog.elem st)):=by rw[T.elem];exact T.und
 rw[run_sliceAt_slice w _ _ _ _ _ ht',run_slice_h w st _ _ _ ht' .i64 _ (by omega) (by omega),T.elem,T.sizeOf]
 have e:(fun a:Addr=>a.add (0*z))=id:=by
  funext a
  simp[Addr.add]
 simp only[Result.andThen,sliced,e,Option.map_id,Int.toNat_natCast,Nat.sub_zero,ite_self,id]
theorem q39(T:ElemT st e z bytes zero)(A:Option Addr)(n c l:Nat)(w:World)(h1:l≤n):
  (Instr.sliceAt st (.slice A n c) (some (.int .i64 (l:Int))) none none).run Tryz.prog w= .ok (.slice (j5d z A l c) (n- l) (c- l)) w:=by
 have ht':Tryz.prog.underlying st=some (.slice (Tryz.prog.elem st)):=by rw[T.elem];exact T.und
 rw[run_sliceAt_slice w _ _ _ _ _ ht',run_slice_l w st _ _ _ ht' .i64 _ (by omega) (by omega),T.elem,T.sizeOf]
 simp[Result.andThen,sliced,j5d]
theorem q1M(T:ElemT st e z bytes zero)(A:Option Addr)(n c l h:Nat)(w:World)(h1:l≤h)(h2:h≤c):
  (Instr.sliceAt st (.slice A n c) (some (.int .i64 (l:Int))) (some (.int .i64 (h:Int))) none).run Tryz.prog w= .ok (.slice (j5d z A l c) (h- l) (c- l)) w:=by
 have ht':Tryz.prog.underlying st=some (.slice (Tryz.prog.elem st)):=by rw[T.elem];exact T.und
 rw[run_sliceAt_slice w _ _ _ _ _ ht',run_slice_lh w st _ _ _ ht' .i64 .i64 _ _ (by omega) (by omega) (by omega),T.elem,T.sizeOf]
 simp[Result.andThen,sliced,j5d]
variable {a:Act}{dst:Option Tmp}{x l h:Operand}{ty:TypeId}{pos:String}{after:Array Edge}{gd:Option (Nat × Bool)}
theorem j43(T:ElemT st e z bytes zero){A:Option Addr}{n c j:Nat}(u:World)(h2:j≤c)(hx:a.eval x= .slice A n c)(hh:a.eval h= .int .i64 (j:Int)):
  (execOp a.eval ⟨dst, .slice st x none (some h) none,ty,pos,after,gd⟩).run Tryz.prog u= .ok (.value (.slice A j c)) u:=by
 unfold execOp
 simp only[hx,hh,Option.map_some,Option.map_none,Sem.run_bind,Sem.run_pure,Result.andThen_ok,q49 T A n c j u h2]
theorem j60(T:ElemT st e z bytes zero){A:Option Addr}{n c j:Nat}(u:World)(h2:j≤n)(hx:a.eval x= .slice A n c)(hh:a.eval l= .int .i64 (j:Int)):
  (execOp a.eval ⟨dst, .slice st x (some l) none none,ty,pos,after,gd⟩).run Tryz.prog u= .ok (.value (.slice (j5d z A j c) (n- j) (c- j))) u:=by
 unfold execOp
 simp only[hx,hh,Option.map_some,Option.map_none,Sem.run_bind,Sem.run_pure,Result.andThen_ok,q39 T A n c j u h2]
theorem q8d(T:ElemT st e z bytes zero){A:Option Addr}{n c i j len:Nat}(u:World)(h1:i≤j)(h2:j≤c)(hlen:j- i=len)(hx:a.eval x= .slice A n c)(hl:a.eval l= .int .i64 (i:Int))(hh:a.eval h= .int .i64 (j:Int)):
  (execOp a.eval ⟨dst, .slice st x (some l) (some h) none,ty,pos,after,gd⟩).run Tryz.prog u= .ok (.value (.slice (j5d z A i c) len (c- i))) u:=by
 subst hlen
 unfold execOp
 simp only[hx,hl,hh,Option.map_some,Option.map_none,Sem.run_bind,Sem.run_pure,Result.andThen_ok,q1M T A n c i j u h1 h2]
end
section
variable {st e:TypeId}{z bytes:Nat}{zero:Value}
theorem j5M(T:ElemT st e z bytes zero){u:World}{B m c:Nat}{A:Option Addr}{ys:List Value}{a:Act}{dst:Option Tmp}{x:Operand}{pos:String}{after:Array Edge}{gd:Option (Nat × Bool)}
  (hy:ys.length=m*z) (h1: ∀u∈ys,u.oneCell'=true) (hc:CellsIn u B A ys) (hs:m≤2000000) (hx:a.eval x= .slice A m c):
  FAt Tryz.prog ⟨dst, .call {callee:= .builtin .append,args:= #[.const (.slice none 0 0),x],argTypes:= #[st,st]},st,pos,after,gd⟩ a (FreshR e z m ys) u:=by
 cases A with
 | none=>
  have h0:ys=[]:=by
   refine List.eq_nil_of_length_eq_zero (Nat.eq_zero_of_not_pos fun hp=>?_)
   obtain⟨ad,e,_⟩:=hc hp
   cases e
  subst h0
  have hm:m=0:=by
   rcases Nat.eq_zero_or_pos m with h|h
   · exact h
   · have:=Nat.mul_pos h T.pos
     simp at hy
     omega
  subst hm
  have he:a.eval (.const (.slice none 0 0))= .slice none 0 0:=rfl
  cases hi:Tryz.prog.info? e with
  |none=>have:=T.info;rw[hi]at this;cases this
  |some i=>
   have hrun:(Builtin.append_ #[st,st] st #[.slice none 0 0, .slice none 0 c]).run Tryz.prog u= .ok (.slice none 0 0) u:=by
     simp[Builtin.append_,run_underlying T.und,sizeOf,typeInfo,hi,Builtin.lenOf,Builtin.firstCells]
   unfold FAt execOp
   simp only[resolve,invoke,builtin,Sem.run_bind,Sem.run_pure,Result.andThen_ok,List.map_toArray,List.map_cons,List.map_nil,he,hx,hrun]
   exact⟨Below.refl _ _,[], .inr ⟨rfl,rfl,rfl,rfl⟩,fun y hy=>by cases hy⟩
 | some ad=>
  refine x0Q T (c:=c) hy h1 (fun j v hv=>?_) hs hx
  have hp:0<ys.length:=by
   rcases Nat.eq_zero_or_pos ys.length with h0|h0
   · rw[List.eq_nil_of_length_eq_zero h0]at hv
     simp at hv
   · exact h0
  obtain⟨ad',e,_,hcc⟩:=hc hp
  obtain rfl:=Option.some.inj e
  exact hcc j v hv
theorem FreshR.formC{e:TypeId}{z n:Nat}{xs:List Value}{x:Value}{N:j0e}(h:FreshR e z n xs x N): ∃A c,x= .slice A n c∧n≤c∧c≤maxLen:=by
 rcases h with ⟨g,cap,cur,rfl,_,h1,h2,_⟩|⟨h1,_,h3,h4⟩
 · exact⟨_,_,rfl,h1,h2⟩
 · first|(subst h3;exact⟨none,0,h1,Nat.le_refl _,Nat.zero_le _⟩)|(subst h4;exact⟨none,0,h1,Nat.le_refl _,Nat.zero_le _⟩)
end
theorem j6R{x:Int}(h: -9223372036854775808≤x∧x≤9223372036854775807):IntKind.i64.wrap x=x:=by rw[IntKind.wrap_i64];omega
section
variable {a:Act}{dst:Option Tmp}{x y:Operand}{ty:TypeId}{pos:String}{after:Array Edge}{gd:Option (Nat × Bool)}
theorem j0o{m k:Int}{b:Bool}(u:World)(hb:decide (m<k)=b)(hx:a.eval x= .int .i64 m)(hy:a.eval y= .int .i64 k):
  (execOp a.eval ⟨dst, .binOp .lss 3 x y 3,ty,pos,after,gd⟩).run Tryz.prog u= .ok (.value (.bool b)) u:=by
 subst hb
 unfold execOp
 simp only[hx,hy]
 go_simp
theorem j1m{m k:Int}{b:Bool}(u:World)(hb:decide (k<m)=b)(hx:a.eval x= .int .i64 m)(hy:a.eval y= .int .i64 k):
  (execOp a.eval ⟨dst, .binOp .gtr 3 x y 3,ty,pos,after,gd⟩).run Tryz.prog u= .ok (.value (.bool b)) u:=by
 subst hb
 unfold execOp
 simp only[hx,hy]
 go_simp
theorem j4A{m k:Int}{b:Bool}(u:World)(hb:decide (m≤k)=b)(hx:a.eval x= .int .i64 m)(hy:a.eval y= .int .i64 k):
  (execOp a.eval ⟨dst, .binOp .leq 3 x y 3,ty,pos,after,gd⟩).run Tryz.prog u= .ok (.value (.bool b)) u:=by
 subst hb
 unfold execOp
 simp only[hx,hy]
 go_simp
theorem j36{m k:Int}{b:Bool}(u:World)(hb:decide (m≠k)=b)(hx:a.eval x= .int .i64 m)(hy:a.eval y= .int .i64 k):
  (execOp a.eval ⟨dst, .binOp .neq 3 x y 3,ty,pos,after,gd⟩).run Tryz.prog u= .ok (.value (.bool b)) u:=by
 have e:(m !=k)=b:=by rw[←hb];by_cases h:m=k<;>simp[h]
 subst e
 unfold execOp
 simp only[hx,hy]
 go_simp
theorem q6y{m k:Int}{b:Bool}(u:World)(hb:decide (k≤m)=b)(hx:a.eval x= .int .i64 m)(hy:a.eval y= .int .i64 k):
  (execOp a.eval ⟨dst, .binOp .geq 3 x y 3,ty,pos,after,gd⟩).run Tryz.prog u= .ok (.value (.bool b)) u:=by
 subst hb
 unfold execOp
 simp only[hx,hy]
 go_simp
theorem j3H{m k r:Int}(u:World)(hr:IntKind.i64.wrap (m+k)=r)(hx:a.eval x= .int .i64 m)(hy:a.eval y= .int .i64 k):
  (execOp a.eval ⟨dst, .binOp .add 3 x y 3,ty,pos,after,gd⟩).run Tryz.prog u= .ok (.value (.int .i64 r)) u:=by
 subst hr
 unfold execOp
 simp only[hx,hy]
 go_simp
theorem j9j{m k r:Int}(u:World)(hr:IntKind.i64.wrap (m- k)=r)(hx:a.eval x= .int .i64 m)(hy:a.eval y= .int .i64 k):
  (execOp a.eval ⟨dst, .binOp .sub 3 x y 3,ty,pos,after,gd⟩).run Tryz.prog u= .ok (.value (.int .i64 r)) u:=by
 subst hr
 unfold execOp
 simp only[hx,hy]
 go_simp
end
def inC(x:InR):List Value:=(j0d 32 x.tx).toList++[.int .i64 x.i]
def inA(x:InR):Array Value:=(inC x).toArray
def inV(x:InR):Value:= .agg (inA x)
def j3e(x:InR):Prop:=x.tx.length=32
def j14:InR:=⟨[],0⟩
theorem okIn.len{x:InR}(h:okIn x):j3e x:=h.1.1
theorem j2u{x:InR}(h:j3e x):(inC x).length=33:=by
 unfold inC
 rw[lA,j0g h]
 rfl
theorem j4l{x:InR}(h:j3e x):(inA x).size=33:=by unfold inA;rw[List.size_toArray,j2u h]
theorem q1H(x:InR): ∀u∈inC x,u.oneCell'=true:=by
 intro u hu
 unfold inC at hu
 rcases List.mem_append.1 hu with h|h
 · exact j2o (j0Q 32 _) u h
 · cases mS.1 h
   rfl
theorem q2I(x:InR):(inA x).all (·.oneCell')=true:=by
 rw[Array.all_eq_true]
 intro i hi
 exact q1H x _ (show (inA x)[i]∈(inA x).toList from Array.mem_toList_iff.2 (Array.getElem_mem hi))
theorem aggIn:AggT 133 33:=⟨fun w=>by simp[isAgg,run_underlying underlying133],by kernel_rfl⟩
theorem elIn:ElemT 74 133 33 40 (inV j14):=⟨underlying74,by kernel_rfl,by decide+kernel,by decide,by decide,by decide⟩
theorem q6m(cs:Array Value)(h:cs.size=33):(Tryz.prog.info? 133).map (·.size)=some cs.size:=by rw[h];exact aggIn.size
theorem q3J{x:InR}(h:j3e x):((inA x).toList.drop 0).take 32=(j0d 32 x.tx).toList:=by
 unfold inA inC
 rw[List.drop_zero,List.take_left' (j0g h)]
theorem q5I{x:InR}(h:j3e x):(inC x)[32]?=some (.int .i64 x.i):=by
 unfold inC
 rw[List.getElem?_append_right (by rw[j0g h];omega),j0g h]
 rfl
def j6Q(o:OutR):List Value:=[.int .i64 o.v, .int .i64 o.tw]
def j4r(o:OutR):Array Value:=(j6Q o).toArray
def j6Z(o:OutR):Value:= .agg (j4r o)
def j1d:OutR:=⟨0,0⟩
theorem j24(o:OutR):(j4r o).size=2:=rfl
theorem j9H(o:OutR): ∀u∈j6Q o,u.oneCell'=true:=by
 intro u hu
 unfold j6Q at hu
 simp only[List.mem_cons,List.not_mem_nil,or_false]at hu
 rcases hu with rfl|rfl<;>rfl
theorem j6W(o:OutR):(j4r o).all (·.oneCell')=true:=by
 rw[Array.all_eq_true]
 intro i hi
 exact j9H o _ (show (j4r o)[i]∈(j4r o).toList from Array.mem_toList_iff.2 (Array.getElem_mem hi))
theorem aggOut:AggT 135 2:=⟨fun w=>by simp[isAgg,run_underlying underlying135],by kernel_rfl⟩
theorem x4w:ElemT 75 135 2 16 (j6Z j1d):=⟨underlying75,by kernel_rfl,by decide+kernel,by decide,by decide,by decide⟩
theorem j9a(cs:Array Value)(h:cs.size=2):(Tryz.prog.info? 135).map (·.size)=some cs.size:=by rw[h];exact aggOut.size
section
variable {w0 u:World}{M:j0e}{g:Nat}{ty:TypeId}{x:InR}{o:OutR}
theorem x3G(hu:EnvC w0 M u)(hm:(g,oc (inA x) ty)∈M)(h:j3e x):(loadVar 133 ⟨g,0,none⟩).run Tryz.prog u= .ok (inV x) u:=by
 have:=j2s aggIn (k:=0) hu hm (inC x) (j2u h) (by unfold inA;rw[List.drop_zero,tL (by rw[j2u h];omega)])
 exact this
instance:Cell Tryz.prog (inA x) 133 0 (inV x) (j3e x):=⟨fun hu hm k=>x3G hu hm k⟩
theorem q5W(hu:EnvC w0 M u)(hm:(g,oc (inA x) ty)∈M)(h:j3e x):(loadVar 26 ⟨g,0,none⟩).run Tryz.prog u= .ok (idv x.tx) u:=by
 have:=j2s aggIdT (k:=0) hu hm _ (j0g h) (q3J h)
 rwa[j2h]at this
instance:Cell Tryz.prog (inA x) 26 0 (idv x.tx) (j3e x):=⟨fun hu hm k=>q5W hu hm k⟩
theorem x0l(hu:EnvC w0 M u)(hm:(g,oc (inA x) ty)∈M)(h:j3e x):(loadVar 3 ⟨g,32,none⟩).run Tryz.prog u= .ok (.int .i64 x.i) u:=
 j0f j1S u (j0n hu hm (by unfold inA;rw[List.getElem?_toArray];exact q5I h))
instance:Cell Tryz.prog (inA x) 3 32 (.int .i64 x.i) (j3e x):=⟨fun hu hm k=>x0l hu hm k⟩
theorem q7p{x:InR}(h:j3e x):((inA x).toList.drop 0).take (x.tx.map u8v).length=x.tx.map u8v:=by
 have:=q3J h
 rw[j1F h]at this
 rwa[lM,h]
theorem x1F(hu:EnvC w0 M u)(hm:(g,oc (j4r o) ty)∈M):(loadVar 135 ⟨g,0,none⟩).run Tryz.prog u= .ok (j6Z o) u:=by
 have:=j2s aggOut (k:=0) hu hm (j6Q o) rfl rfl
 exact this
instance:Cell Tryz.prog (j4r o) 135 0 (j6Z o) (True):=⟨fun hu hm k=>x1F hu hm⟩
theorem q8s(hu:EnvC w0 M u)(hm:(g,oc (j4r o) ty)∈M):(loadVar 3 ⟨g,0,none⟩).run Tryz.prog u= .ok (.int .i64 o.v) u:=
 j0f j1S u (j0n hu hm rfl)
instance:Cell Tryz.prog (j4r o) 3 0 (.int .i64 o.v) (True):=⟨fun hu hm k=>q8s hu hm⟩
theorem q4o(hu:EnvC w0 M u)(hm:(g,oc (j4r o) ty)∈M):(loadVar 3 ⟨g,1,none⟩).run Tryz.prog u= .ok (.int .i64 o.tw) u:=
 j0f j1S u (j0n hu hm rfl)
instance:Cell Tryz.prog (j4r o) 3 1 (.int .i64 o.tw) (True):=⟨fun hu hm k=>q4o hu hm⟩
end
theorem q9w{tx:List Int}{i:Int}(h:tx.length=32):Tryz.prog.built 133 [(0,idv tx),(1, .int .i64 i)]=some (inA ⟨tx,i⟩):=by
 have hs:(j0d 32 tx).size=32:=j0c _ _ (by omega)
 have e:j0J [(0,idv tx),(1, .int .i64 i)]=inC ⟨tx,i⟩:=by simp[j0J,inC,idv,Value.cells]
 have:=j2m (t:=133) (n:=33) underlying133 (by kernel_rfl) (places:=[(0,32),(32,1)]) (by kernel_rfl) (ps:=[(0,idv tx),(1, .int .i64 i)]) (by
  refine⟨?_,?_,trivial⟩
  · show some (0,32)=some (0,(j0d 32 tx).size)
    rw[hs]
  · show some (32,1)=some (0+(j0d 32 tx).size,1)
    rw[hs]) (by rw[e,j2u (x:=⟨tx,i⟩) h])
 rw[this,e]
 rfl
def InsIn(w:World)(B:Nat)(A:Option Addr)(l:List InR):Prop:=CellsIn w B A (l.map inC).flatten
def OutsIn(w:World)(B:Nat)(A:Option Addr)(l:List OutR):Prop:=CellsIn w B A (l.map j6Q).flatten
def okIns(l:List InR):Prop:= ∀x∈l,okIn x
def okOuts(l:List OutR):Prop:= ∀x∈l,q0l x
theorem q8t{l:List InR}(h:okIns l):isRows 33 (l.map inC):=fun x hx=>by
 obtain⟨t,ht,rfl⟩:=List.mem_map.1 hx
 exact j2u (h t ht).len
theorem q1G(l:List OutR):isRows 2 (l.map j6Q):=fun x hx=>by
 obtain⟨t,ht,rfl⟩:=List.mem_map.1 hx
 rfl
theorem okIns.get{l:List InR}(h:okIns l){i:Nat}(hi:i<l.length):okIn (l.getD i j14):=by
 rw[gD,gE hi]
 exact h _ (List.getElem_mem hi)
theorem okOuts.get{l:List OutR}(h:okOuts l){i:Nat}(hi:i<l.length):q0l (l.getD i j1d):=by
 rw[gD,gE hi]
 exact h _ (List.getElem_mem hi)
theorem okIns.take{l:List InR}(h:okIns l)(k:Nat):okIns (l.take k):=fun x hx=>h x (List.mem_of_mem_take hx)
theorem j35{α:Type}{C:α→List Value}{z:Nat}{w:World}{B:Nat}{A:Option Addr}{l:List α}{d:α}(h:CellsIn w B A (l.map C).flatten)(hR:isRows z (l.map C))(z0:0<z){i:Nat}(hi:i<l.length):
  ∃ad,A=some ad∧ad.block<B∧ ∀j v,(C (l.getD i d))[j]?=some v→w.cell? ((ad.add (i*z)).add j)=some v:=by
 have hfl:=hR.flat_len
 rw[lM]at hfl
 have hp:0<l.length*z:=Nat.mul_pos (by omega) z0
 obtain⟨ad,e,hb,hc⟩:=h (by rw[hfl];exact hp)
 have hg:(l.map C).getD i []=C (l.getD i d):=by
  rw[gD,List.getElem?_map,gE hi,gD,gE hi]
  rfl
 refine⟨ad,e,hb,fun j v hv=>?_⟩
 rw[j4Y]
 refine hc (i*z+j) v ?_
 have hj:j<z:=by
  rcases Nat.lt_or_ge j z with h'|h'
  · exact h'
  · have:=hR.get (i:=i) (by rw[lM];exact hi)
    rw[hg]at this
    rw[gN (by rw[this];exact h')]at hv
    cases hv
 rw[hR.flat_get i j (by rw[lM];exact hi) hj,hg]
 exact hv
theorem InsIn.loads{w:World}{A:Option Addr}{l:List InR}(h:InsIn w w.heap.size A l)(hl:okIns l){k:Nat}(hk:k<l.length): ∃ad,A=some ad∧ad.block<w.heap.size∧ ∀u,EnvX w u []→
   (loadVar 133 (ad.add (k*33))).run Tryz.prog u= .ok (inV (l.getD k j14)) u∧
   (loadVar 26 (ad.add (k*33))).run Tryz.prog u= .ok (idv (l.getD k j14).tx) u∧
   (loadVar 3 ((ad.add (k*33)).add 32)).run Tryz.prog u= .ok (.int .i64 (l.getD k j14).i) u∧
   j53 u (ad.add (k*33)) ((l.getD k j14).tx.map u8v):=by
 obtain⟨ad,e,hb,hc⟩:=j35 (d:=j14) h (q8t hl) (by decide) hk
 refine⟨ad,e,hb,fun u hu=>?_⟩
 have h32:=(hl.get hk).len
 have hcu: ∀j v,(inC (l.getD k j14))[j]?=some v→u.cell? ((ad.add (k*33)).add j)=some v:=fun j v hv=>by
   rw[←hc j v hv]
   exact(EnvX.bel hu).cell (by rw[j0N,j0N];exact hb)
 generalize l.getD k j14=t at *
 refine⟨j0F aggIn (inC t) (j2u h32) hcu,?_,j0f j1S u (hcu 32 _ (q5I h32)),?_⟩
 · have:=j0F aggIdT (w:=u) (ad:=ad.add (k*33)) _ (j0g h32) (fun j v hv=>hcu j v (by
    unfold inC
    rw[List.getElem?_append_left (by
      rcases Nat.lt_or_ge j (j0d 32 t.tx).toList.length with h'|h'
      · exact h'
      · rw[gN h']at hv;cases hv)]
    exact hv))
   rwa[j2h]at this
 · intro j c hcj
   refine hcu j c ?_
   have hj:j<(j0d 32 t.tx).toList.length:=by
    rw[j1F h32]
    rcases Nat.lt_or_ge j (t.tx.map u8v).length with h'|h'
    · exact h'
    · rw[gN h']at hcj;cases hcj
   unfold inC
   rw[List.getElem?_append_left hj,j1F h32]
   exact hcj
theorem OutsIn.loads{w:World}{A:Option Addr}{l:List OutR}(h:OutsIn w w.heap.size A l){k:Nat}(hk:k<l.length): ∃ad,A=some ad∧ad.block<w.heap.size∧ ∀u,EnvX w u []→
  (loadVar 135 (ad.add (k*2))).run Tryz.prog u= .ok (j6Z (l.getD k j1d)) u∧
  (loadVar 3 (ad.add (k*2))).run Tryz.prog u= .ok (.int .i64 (l.getD k j1d).v) u∧
  (loadVar 3 ((ad.add (k*2)).add 1)).run Tryz.prog u= .ok (.int .i64 (l.getD k j1d).tw) u:=by
 obtain⟨ad,e,hb,hc⟩:=j35 (d:=j1d) h (q1G l) (by decide) hk
 refine⟨ad,e,hb,fun u hu=>?_⟩
 have hcu: ∀j v,(j6Q (l.getD k j1d))[j]?=some v→u.cell? ((ad.add (k*2)).add j)=some v:=fun j v hv=>by
  rw[←hc j v hv]
  exact(EnvX.bel hu).cell (by rw[j0N,j0N];exact hb)
 generalize l.getD k j1d=t at *
 have hadd0: ∀a:Addr,a.add 0=a:=fun a=>by unfold Addr.add;rfl
 refine⟨j0F aggOut (j6Q t) rfl hcu,j0f j1S u (by have:=hcu 0 _ rfl;rwa[hadd0]at this),j0f j1S u (hcu 1 _ rfl)⟩
theorem q3p:(Tryz.prog.fieldsOf 133).toList.map (fun f=>(f.name== "_",f.type,f.offset))=[(false,26,0),(false,3,32)]:=by kernel_rfl
theorem q0q:(Tryz.prog.fieldsOf 135).toList.map (fun f=>(f.name== "_",f.type,f.offset))=[(false,3,0),(false,3,1)]:=by kernel_rfl
def eqI(a b:InR):Bool:=decide (a=b)
def eqO(a b:OutR):Bool:=decide (a=b)
theorem j6x(a b:InR)(ha:j3e a)(hb:j3e b)(w:World):(Op.equal 133 (inV a) (inV b)).run Tryz.prog w= .ok (eqI a b) w:=by
 unfold Op.equal inV
 have h:=run_equalIn_struct (P:=Tryz.prog) w 9999 133 (inA a) (inA b) (by kernel_rfl) (by kernel_rfl)
 refine Eq.trans h ?_
 have hf:=q3p
 generalize (Tryz.prog.fieldsOf 133).toList=fs at hf ⊢
 have hl:fs.length=2:=by simpa using congrArg List.length hf
 obtain⟨f1,f2,rfl⟩: ∃f1 f2,fs=[f1,f2]:=by
  match fs,hl with
  |[a,b],_=>exact⟨a,b,rfl⟩
 simp only[List.map_cons,List.map_nil,List.cons.injEq,Prod.mk.injEq,beq_eq_false_iff_ne,and_true]at hf
 obtain⟨⟨n1,t1,o1⟩,n2,t2,o2⟩:=hf
 have pT: ∀t:InR,j3e t→(part 26 (inA t) 0).run Tryz.prog w= .ok (.agg (j0d 32 t.tx)) w:=fun t ht=>j0U aggIdT (by have:=j1L (q3J ht);rwa[Array.toArray_toList]at this) w
 have pI: ∀t:InR,j3e t→(part 3 (inA t) 32).run Tryz.prog w= .ok (.int .i64 t.i) w:=fun t ht=>run_part_plain (P:=Tryz.prog) w (by kernel_rfl) (by unfold inA;rw[List.getElem?_toArray];exact q5I ht)
 have e1:=j1e 9997 a.tx b.tx ha hb w
 have e2:=run_equalIn_int (P:=Tryz.prog) w 9998 3 .i64 .i64 a.i b.i underlying3
 have hd:eqI a b=(eqL a.tx b.tx&& (a.i==b.i)):=by
  unfold eqI eqL
  rw[Bool.eq_iff_iff]
  simp only[decide_eq_true_eq,Bool.and_eq_true,beq_iff_eq]
  exact⟨fun h=>by subst h;exact⟨rfl,rfl⟩,fun h=>by cases a;cases b;simp only at h;rw[h.1,h.2]⟩
 rw[hd]
 rw[j0r (a:= .agg (j0d 32 a.tx)) (b:= .agg (j0d 32 b.tx)) n1 (by rw[t1,o1];exact pT a ha) (by rw[t1,o1];exact pT b hb) (by rw[t1];exact e1)]
 cases eqL a.tx b.tx with
 |false=>rfl
 |true=>
  rw[if_pos rfl,j0r (a:= .int .i64 a.i) (b:= .int .i64 b.i) n2 (by rw[t2,o2];exact pI a ha) (by rw[t2,o2];exact pI b hb) (by rw[t2];exact e2)]
  cases hab:(a.i==b.i)with
  |false=>rfl
  |true=>rfl
theorem j81(a b:OutR)(w:World):(Op.equal 135 (j6Z a) (j6Z b)).run Tryz.prog w= .ok (eqO a b) w:=by
 unfold Op.equal j6Z
 have h:=run_equalIn_struct (P:=Tryz.prog) w 9999 135 (j4r a) (j4r b) (by kernel_rfl) (by kernel_rfl)
 refine Eq.trans h ?_
 have hf:=q0q
 generalize (Tryz.prog.fieldsOf 135).toList=fs at hf ⊢
 have hl:fs.length=2:=by simpa using congrArg List.length hf
 obtain⟨f1,f2,rfl⟩: ∃f1 f2,fs=[f1,f2]:=by
  match fs,hl with
  |[a,b],_=>exact⟨a,b,rfl⟩
 simp only[List.map_cons,List.map_nil,List.cons.injEq,Prod.mk.injEq,beq_eq_false_iff_ne,and_true]at hf
 obtain⟨⟨n1,t1,o1⟩,n2,t2,o2⟩:=hf
 have pV: ∀t:OutR,(part 3 (j4r t) 0).run Tryz.prog w= .ok (.int .i64 t.v) w:=fun t=>run_part_plain (P:=Tryz.prog) w (by kernel_rfl) rfl
 have pT: ∀t:OutR,(part 3 (j4r t) 1).run Tryz.prog w= .ok (.int .i64 t.tw) w:=fun t=>run_part_plain (P:=Tryz.prog) w (by kernel_rfl) rfl
 have e1:=run_equalIn_int (P:=Tryz.prog) w 9998 3 .i64 .i64 a.v b.v underlying3
 have e2:=run_equalIn_int (P:=Tryz.prog) w 9998 3 .i64 .i64 a.tw b.tw underlying3
 have hd:eqO a b=((a.v==b.v) && (a.tw==b.tw)):=by
  unfold eqO
  rw[Bool.eq_iff_iff]
  simp only[decide_eq_true_eq,Bool.and_eq_true,beq_iff_eq]
  exact⟨fun h=>by subst h;exact⟨rfl,rfl⟩,fun h=>by cases a;cases b;simp only at h;rw[h.1,h.2]⟩
 rw[hd]
 rw[j0r (a:= .int .i64 a.v) (b:= .int .i64 b.v) n1 (by rw[t1,o1];exact pV a) (by rw[t1,o1];exact pV b) (by rw[t1];exact e1)]
 cases (a.v==b.v)with
 |false=>rfl
 |true=>
  rw[if_pos rfl,j0r (a:= .int .i64 a.tw) (b:= .int .i64 b.tw) n2 (by rw[t2,o2];exact pT a) (by rw[t2,o2];exact pT b) (by rw[t2];exact e2)]
  cases hab:(a.tw==b.tw)with
  |false=>rfl
  |true=>rfl
theorem q9G:(#[Value.int .u8 0,Value.int .u8 0,Value.int .u8 0,Value.int .u8 0,Value.int .u8 0,Value.int .u8 0,Value.int .u8 0,Value.int .u8 0,Value.int .u8 0,Value.int .u8 0,Value.int .u8 0,Value.int .u8 0,Value.int .u8 0,Value.int .u8 0,Value.int .u8 0,Value.int .u8 0,Value.int .u8 0,Value.int .u8 0,Value.int .u8 0,Value.int .u8 0,Value.int .u8 0,Value.int .u8 0,Value.int .u8 0,Value.int .u8 0,Value.int .u8 0,Value.int .u8 0,Value.int .u8 0,Value.int .u8 0,Value.int .u8 0,Value.int .u8 0,Value.int .u8 0,Value.int .u8 0,Value.int .i64 0]:Array Value)=inA j14:=rfl
theorem q6b:(#[Value.int .i64 0,Value.int .i64 0]:Array Value)=j4r j1d:=rfl
theorem q7L:Tryz.prog.eqGuardType Tryz.prog.depth 133=false:=by kernel_rfl
theorem x0U:Tryz.prog.eqGuardType Tryz.prog.depth 135=false:=by kernel_rfl
section
variable {a:Act}{dst:Option Tmp}{x y:Operand}{ty:TypeId}{pos:String}{after:Array Edge}{gd:Option (Nat × Bool)}
theorem q3o{s t:InR}{b:Bool}(hs:j3e s)(ht:j3e t)(hb:eqI s t=b)(u:World)(hx:a.eval x=inV s)(hy:a.eval y=inV t):
  (execOp a.eval ⟨dst, .binOp .eql 133 x y 133,ty,pos,after,gd⟩).run Tryz.prog u= .ok (.value (.bool b)) u:=by
 have h0:=j6x s t hs ht u
 have h:(binOp .eql 133 (inV s) (inV t)).run Tryz.prog u= .ok (.bool (eqI s t)) u:=by
  unfold inV at *
  simp only[binOp]
  simp[h0]
 have hg:=run_eqGuard_agg (P:=Tryz.prog) u .eql 133 x y (inA s) (inA t) q7L
 rw[←hb]
 unfold inV at *
 unfold execOp
 simp only[hx,hy,Sem.run_bind,hg,Result.andThen_ok,h,Sem.run_pure]
theorem j5D{s t:InR}{b:Bool}(hs:j3e s)(ht:j3e t)(hb:(!eqI s t)=b)(u:World)(hx:a.eval x=inV s)(hy:a.eval y=inV t):
  (execOp a.eval ⟨dst, .binOp .neq 133 x y 133,ty,pos,after,gd⟩).run Tryz.prog u= .ok (.value (.bool b)) u:=by
 have h0:=j6x s t hs ht u
 have h:(binOp .neq 133 (inV s) (inV t)).run Tryz.prog u= .ok (.bool (!eqI s t)) u:=by
  unfold inV at *
  simp only[binOp]
  simp[h0]
 have hg:=run_eqGuard_agg (P:=Tryz.prog) u .neq 133 x y (inA s) (inA t) q7L
 rw[←hb]
 unfold inV at *
 unfold execOp
 simp only[hx,hy,Sem.run_bind,hg,Result.andThen_ok,h,Sem.run_pure]
theorem j7O{s t:OutR}{b:Bool}(hb:(!eqO s t)=b)(u:World)(hx:a.eval x=j6Z s)(hy:a.eval y=j6Z t):
  (execOp a.eval ⟨dst, .binOp .neq 135 x y 135,ty,pos,after,gd⟩).run Tryz.prog u= .ok (.value (.bool b)) u:=by
 have h0:=j81 s t u
 have h:(binOp .neq 135 (j6Z s) (j6Z t)).run Tryz.prog u= .ok (.bool (!eqO s t)) u:=by
  unfold j6Z at *
  simp only[binOp]
  simp[h0]
 have hg:=run_eqGuard_agg (P:=Tryz.prog) u .neq 135 x y (j4r s) (j4r t) x0U
 rw[←hb]
 unfold j6Z at *
 unfold execOp
 simp only[hx,hy,Sem.run_bind,hg,Result.andThen_ok,h,Sem.run_pure]
theorem j7K{k off:Nat}(hk:([(0,0),(1,1)]:List (Nat × Nat)).lookup k=some off){ad:Addr}(u:World)(hx:a.eval x= .pointer (some ad)):
  (execOp a.eval ⟨dst, .fieldAddr 135 x k,ty,pos,after,gd⟩).run Tryz.prog u= .ok (.value (.pointer (some (ad.add off)))) u:=by
 unfold execOp
 simp only[hx]
 rcases k with _|_|k
 all_goals first|(cases hk;go_simp)|cases hk
instance:FldT Tryz.prog 135 [(0,0),(1,1)]:=⟨fun h u k=>j7K h u k⟩
theorem j6i{k off:Nat}(hk:([(0,0),(1,32)]:List (Nat × Nat)).lookup k=some off){ad:Addr}(u:World)(hx:a.eval x= .pointer (some ad)):
  (execOp a.eval ⟨dst, .fieldAddr 133 x k,ty,pos,after,gd⟩).run Tryz.prog u= .ok (.value (.pointer (some (ad.add off)))) u:=by
 unfold execOp
 simp only[hx]
 rcases k with _|_|k
 all_goals first|(cases hk;go_simp)|cases hk
instance:FldT Tryz.prog 133 [(0,0),(1,32)]:=⟨fun h u k=>j6i h u k⟩
theorem j6p{k off:Nat}(hk:([(0,0),(1,1)]:List (Nat × Nat)).lookup k=some off){ad:Addr}(u:World)(hx:a.eval x= .pointer (some ad)):
  (execOp a.eval ⟨dst, .fieldAddr 77 x k,ty,pos,after,gd⟩).run Tryz.prog u= .ok (.value (.pointer (some (ad.add off)))) u:=by
 unfold execOp
 simp only[hx]
 rcases k with _|_|k
 all_goals first|(cases hk;go_simp)|cases hk
instance:FldT Tryz.prog 77 [(0,0),(1,1)]:=⟨fun h u k=>j6p h u k⟩
theorem q57(a:Act):j3r Tryz.prog ⟨dst, .alloc 133,ty,pos,after,gd⟩ a (.cells (inA j14) 133 (0,0)):=fun u=>by
 rw[←q9G]
 go_simp
theorem j9d(a:Act):j3r Tryz.prog ⟨dst, .alloc 135,ty,pos,after,gd⟩ a (.cells (j4r j1d) 135 (0,0)):=fun u=>by
 rw[←q6b]
 go_simp
end
structure TxM where
  r:TxR
  A1:Option Addr
  n1:Nat
  c1:Nat
  A2:Option Addr
  n2:Nat
  c2:Nat
def txC(t:TxM):List Value:=[.slice t.A1 t.n1 t.c1, .slice t.A2 t.n2 t.c2]
def txA(t:TxM):Array Value:=(txC t).toArray
def txV(t:TxM):Value:= .agg (txA t)
def j0A:TxM:=⟨j8a,none,0,0,none,0,0⟩
structure TxOk(w:World)(t:TxM):Prop where
  l1:t.r.ins.length=t.n1
  b1:t.n1≤t.c1∧t.c1≤maxLen
  o1:okIns t.r.ins
  m1:InsIn w w.heap.size t.A1 t.r.ins
  l2:t.r.outs.length=t.n2
  b2:t.n2≤t.c2∧t.c2≤maxLen
  o2:okOuts t.r.outs
  m2:OutsIn w w.heap.size t.A2 t.r.outs
theorem TxOk.up{w w':World}{t:TxM}(h:TxOk w t)(hb:Below w.heap.size w w'):TxOk w' t:=⟨h.l1,h.b1,h.o1,h.m1.up hb,h.l2,h.b2,h.o2,h.m2.up hb⟩
theorem TxOk.ok{w:World}{t:TxM}(h:TxOk w t):okX t.r:=⟨h.o1,h.o2⟩
theorem TxOk.n63{w:World}{t:TxM}(h:TxOk w t):t.n1<9223372036854775808∧t.n2<9223372036854775808:=by
 have h1:=h.b1
 have h2:=h.b2
 unfold maxLen at h1 h2
 omega
theorem j0Y(t:TxM):(txA t).size=2:=rfl
theorem j9f(t:TxM): ∀u∈txC t,u.oneCell'=true:=by
 intro u hu
 unfold txC at hu
 simp only[List.mem_cons,List.not_mem_nil,or_false]at hu
 rcases hu with rfl|rfl<;>rfl
theorem j3I(t:TxM):(txA t).all (·.oneCell')=true:=by
 rw[Array.all_eq_true]
 intro i hi
 exact j9f t _ (show (txA t)[i]∈(txA t).toList from Array.mem_toList_iff.2 (Array.getElem_mem hi))
theorem aggTx:AggT 77 2:=⟨fun w=>by simp[isAgg,run_underlying underlying77],by kernel_rfl⟩
theorem x3L:ElemT 23 77 2 48 (txV j0A):=⟨underlying23,by kernel_rfl,by decide+kernel,by decide,by decide,by decide⟩
theorem j5i(cs:Array Value)(h:cs.size=2):(Tryz.prog.info? 77).map (·.size)=some cs.size:=by rw[h];exact aggTx.size
theorem x1m: ∀w,(isAgg 74).run Tryz.prog w= .ok false w:=fun w=>by simp[isAgg,run_underlying underlying74]
theorem q7l: ∀w,(isAgg 75).run Tryz.prog w= .ok false w:=fun w=>by simp[isAgg,run_underlying underlying75]
section
variable {w0 u:World}{M:j0e}{g:Nat}{ty:TypeId}{t:TxM}
theorem q6e(hu:EnvC w0 M u)(hm:(g,oc (txA t) ty)∈M):(loadVar 77 ⟨g,0,none⟩).run Tryz.prog u= .ok (txV t) u:=by
 have:=j2s aggTx (k:=0) hu hm (txC t) rfl rfl
 exact this
instance:Cell Tryz.prog (txA t) 77 0 (txV t) (True):=⟨fun hu hm k=>q6e hu hm⟩
theorem q5j(hu:EnvC w0 M u)(hm:(g,oc (txA t) ty)∈M):(loadVar 74 ⟨g,0,none⟩).run Tryz.prog u= .ok (.slice t.A1 t.n1 t.c1) u:=
 j0f x1m u (j0n hu hm rfl)
instance:Cell Tryz.prog (txA t) 74 0 (.slice t.A1 t.n1 t.c1) (True):=⟨fun hu hm k=>q5j hu hm⟩
theorem q17(hu:EnvC w0 M u)(hm:(g,oc (txA t) ty)∈M):(loadVar 75 ⟨g,1,none⟩).run Tryz.prog u= .ok (.slice t.A2 t.n2 t.c2) u:=
 j0f q7l u (j0n hu hm rfl)
instance:Cell Tryz.prog (txA t) 75 1 (.slice t.A2 t.n2 t.c2) (True):=⟨fun hu hm k=>q17 hu hm⟩
end
section
variable {dst:Option Tmp}{ty:TypeId}{pos:String}{after:Array Edge}{gd:Option (Nat × Bool)}
theorem j6G(a:Act):j3r Tryz.prog ⟨dst, .alloc 77,ty,pos,after,gd⟩ a (.cells (txA j0A) 77 (0,0)):=fun u=>by
 have e:(#[Value.slice none 0 0,Value.slice none 0 0]:Array Value)=txA j0A:=rfl
 rw[←e]
 go_simp
end
structure TxsIn(w:World)(A:Option Addr)(l:List TxM):Prop where
  cells:CellsIn w w.heap.size A (l.map txC).flatten
  each: ∀t∈l,TxOk w t
theorem TxsIn.up{w w':World}{A:Option Addr}{l:List TxM}(h:TxsIn w A l)(hb:Below w.heap.size w w'):TxsIn w' A l:=⟨h.cells.up hb,fun t ht=>(h.each t ht).up hb⟩
theorem TxsIn.get{w:World}{A:Option Addr}{l:List TxM}(h:TxsIn w A l){i:Nat}(hi:i<l.length):TxOk w (l.getD i j0A):=by
 rw[gD,gE hi]
 exact h.each _ (List.getElem_mem hi)
theorem j6M(l:List TxM):isRows 2 (l.map txC):=fun x hx=>by
 obtain⟨t,ht,rfl⟩:=List.mem_map.1 hx
 rfl
theorem TxsIn.loads{w:World}{A:Option Addr}{l:List TxM}(h:TxsIn w A l){k:Nat}(hk:k<l.length): ∃ad,A=some ad∧ad.block<w.heap.size∧ ∀u,EnvX w u []→
  (loadVar 77 (ad.add (k*2))).run Tryz.prog u= .ok (txV (l.getD k j0A)) u∧
  (loadVar 74 (ad.add (k*2))).run Tryz.prog u= .ok (.slice (l.getD k j0A).A1 (l.getD k j0A).n1 (l.getD k j0A).c1) u∧
  (loadVar 75 ((ad.add (k*2)).add 1)).run Tryz.prog u= .ok (.slice (l.getD k j0A).A2 (l.getD k j0A).n2 (l.getD k j0A).c2) u:=by
 obtain⟨ad,e,hb,hc⟩:=j35 (d:=j0A) h.cells (j6M l) (by decide) hk
 refine⟨ad,e,hb,fun u hu=>?_⟩
 have hcu: ∀j v,(txC (l.getD k j0A))[j]?=some v→u.cell? ((ad.add (k*2)).add j)=some v:=fun j v hv=>by
  rw[←hc j v hv]
  exact(EnvX.bel hu).cell (by rw[j0N,j0N];exact hb)
 generalize l.getD k j0A=t at *
 have hadd0: ∀a:Addr,a.add 0=a:=fun a=>by unfold Addr.add;rfl
 refine⟨j0F aggTx (txC t) rfl hcu,j0f x1m u (by have:=hcu 0 _ rfl;rwa[hadd0]at this),j0f q7l u (hcu 1 _ rfl)⟩
theorem j9F{r s:TxR}(h:r≠s):j4g r s=false:=decide_eq_false h
theorem j8Y{α:Type}{a b:List α}{d:α}(hl:a.length=b.length)(h: ∀i,i<a.length→a.getD i d=b.getD i d):a=b:=by
 refine List.ext_getElem hl fun i h1 h2=>?_
 have:=h i h1
 rwa[gD,gE h1,gD,gE h2]at this
theorem q9W{r s:TxR}(h1:r.ins.length=s.ins.length)(h2:r.outs.length=s.outs.length)(h3: ∀i,i<r.ins.length→r.ins.getD i j14=s.ins.getD i j14)(h4: ∀i,i<r.outs.length→r.outs.getD i j1d=s.outs.getD i j1d):j4g r s=true:=by
 refine decide_eq_true ?_
 cases r
 cases s
 rw[TxR.mk.injEq]
 exact⟨j8Y h1 h3,j8Y h2 h4⟩
theorem q5m(r:TxR)(A1:Option Addr)(n1 c1:Nat)(A2:Option Addr)(n2 c2:Nat)(s:TxR)(B1:Option Addr)(m1 d1:Nat)(B2:Option Addr)(m2 d2:Nat)(w:World)(ht:TxOk w ⟨r,A1,n1,c1,A2,n2,c2⟩)(hs:TxOk w ⟨s,B1,m1,d1,B2,m2,d2⟩):
  Rz 143 #[txV ⟨r,A1,n1,c1,A2,n2,c2⟩,txV ⟨s,B1,m1,d1,B2,m2,d2⟩] w (.bool (j4g r s)):=by
 unfold Rz
 have HT:=hD ht
 have HS:=hD hs
 have HN:=hD ht.n63
 have HM:=hD hs.n63
 obtain⟨hn1,hn2⟩:=ht.n63
 have HL:Hid (r.ins.length=n1∧r.outs.length=n2):=⟨ht.l1,ht.l2⟩
 have HK:Hid (s.ins.length=m1∧s.outs.length=m2):=⟨hs.l1,hs.l2⟩
 have E1:Hid (EnvX w ((w.alloc (.cells (txA ⟨r,A1,n1,c1,A2,n2,c2⟩) 77)).alloc (.cells (txA ⟨s,B1,m1,d1,B2,m2,d2⟩) 77)) [(w.heap.size+1,oc (txA ⟨s,B1,m1,d1,B2,m2,d2⟩) 77),(w.heap.size,oc (txA ⟨r,A1,n1,c1,A2,n2,c2⟩) 77)]):=(EnvX.start w).two _ _
 clear ht hs
 unfold txV
 go_enter func143,ntmps143
 go_upto_region 1 with (fail)
 generalize (w.alloc (.cells (txA ⟨r,A1,n1,c1,A2,n2,c2⟩) 77)).alloc (.cells (txA ⟨s,B1,m1,d1,B2,m2,d2⟩) 77)=W at *
 by_cases d6:n1=m1
 case neg=>
  have D6:Hid (decide ((n1:Int)≠(m1:Int))=true):=decide_eq_true (by omega)
  have HF:Hid (j4g r s=false):=j9F fun e=>d6 (by rw[←HL.out.1,←HK.out.1,e])
  clear d6
  go_upto_region 1 with (fail)
  refine rgQ [0,1,2,3,4,5,6,7,8,9,10,11,12,13,14,15] [] E1 rfl fun hw=>?_
  refine qo rfl hw ?_
  refine ql rfl (mT mH) trivial hw ?_
  refine qv rfl (fun u hu=>j0l underlying74 HN.out.1 u rfl) hw ?_
  refine qo rfl hw ?_
  refine ql rfl mH trivial hw ?_
  refine qv rfl (fun u hu=>j0l underlying74 HM.out.1 u rfl) hw ?_
  refine qv rfl (fun u hu=>j36 u D6.out rfl rfl) hw ?_
  refine qw 9 hw ?_
  refine enP fun u3 EX2=>?_
  have HBE:=hD (EnvX.bel EX2.out)
  go_wp2
  go_ret
  exact⟨by rw[HF.out];first|done|rfl,HBE.out⟩
 have D6:Hid (decide ((n1:Int)≠(m1:Int))=false):=decide_eq_false (by omega)
 by_cases d14:n2=m2
 case neg=>
  have D14:Hid (decide ((n2:Int)≠(m2:Int))=true):=decide_eq_true (by omega)
  have HF:Hid (j4g r s=false):=j9F fun e=>d14 (by rw[←HL.out.2,←HK.out.2,e])
  clear d6 d14
  go_upto_region 1 with (fail)
  refine rgQ [0,1,2,3,4,5,6,7,8,9,10,11,12,13,14,15] [] E1 rfl fun hw=>?_
  refine qo rfl hw ?_
  refine ql rfl (mT mH) trivial hw ?_
  refine qv rfl (fun u hu=>j0l underlying74 HN.out.1 u rfl) hw ?_
  refine qo rfl hw ?_
  refine ql rfl mH trivial hw ?_
  refine qv rfl (fun u hu=>j0l underlying74 HM.out.1 u rfl) hw ?_
  refine qv rfl (fun u hu=>j36 u D6.out rfl rfl) hw ?_
  refine qw 2 hw ?_
  refine ql rfl (mT mH) trivial hw ?_
  refine qv rfl (fun u hu=>j0l underlying75 HN.out.2 u rfl) hw ?_
  refine qo rfl hw ?_
  refine ql rfl mH trivial hw ?_
  refine qv rfl (fun u hu=>j0l underlying75 HM.out.2 u rfl) hw ?_
  refine qv rfl (fun u hu=>j36 u D14.out rfl rfl) hw ?_
  refine qo rfl hw ?_
  refine enP fun u3 EX2=>?_
  have HBE:=hD (EnvX.bel EX2.out)
  go_wp2
  go_ret
  exact⟨by rw[HF.out];first|done|rfl,HBE.out⟩
 have D14:Hid (decide ((n2:Int)≠(m2:Int))=false):=decide_eq_false (by omega)
 subst d6
 subst d14
 refine rgQ [0,1,2,3,4,5,6,7,8,9,10,11,12,13,14,15] [] E1 rfl fun hw=>?_
 refine qo rfl hw ?_
 refine ql rfl (mT mH) trivial hw ?_
 refine qv rfl (fun u hu=>j0l underlying74 HN.out.1 u rfl) hw ?_
 refine qo rfl hw ?_
 refine ql rfl mH trivial hw ?_
 refine qv rfl (fun u hu=>j0l underlying74 HM.out.1 u rfl) hw ?_
 refine qv rfl (fun u hu=>j36 u D6.out rfl rfl) hw ?_
 refine qw 2 hw ?_
 refine ql rfl (mT mH) trivial hw ?_
 refine qv rfl (fun u hu=>j0l underlying75 HN.out.2 u rfl) hw ?_
 refine qo rfl hw ?_
 refine ql rfl mH trivial hw ?_
 refine qv rfl (fun u hu=>j0l underlying75 HM.out.2 u rfl) hw ?_
 refine qv rfl (fun u hu=>j36 u D14.out rfl rfl) hw ?_
 refine qo rfl hw ?_
 refine enP fun u3 EX2=>?_
 have EJ:=hD EX2.out
 clear EX2 E1
 go_upto_region 4 with (fail)
 go_loopw [5] (fun iv u=> ∃i:Nat,i≤n1∧iv= .int .i64 (i:Int)∧Hid ((∀j,j<i→r.ins.getD j j14=s.ins.getD j j14)∧EnvX w u [(w.heap.size+1,oc (txA ⟨s,B1,n1,d1,B2,n2,d2⟩) 77),(w.heap.size,oc (txA ⟨r,A1,n1,c1,A2,n2,c2⟩) 77)])) (fun iv _=>n1- (intOf iv).toNat)
 case atStart=>exact⟨0,by omega,rfl,(fun j hj=>by omega),EJ.out⟩
 case round=>
  obtain⟨i,hi,rfl,hinv⟩:=hrel
  have H1:=hD hinv.out.1
  have EK:=hD hinv.out.2
  clear hinv EJ
  by_cases hlt:i<n1
  · have C4:Hid (decide ((i:Int)<(n1:Int))=true):=decide_eq_true (by omega)
    have HI:=hD hlt
    have hil:i<r.ins.length:=by rw[HL.out.1];exact hlt
    have hjl:i<s.ins.length:=by rw[HK.out.1];exact hlt
    obtain⟨ad,rfl,-,hld⟩:=HT.out.m1.loads HT.out.o1 hil
    obtain⟨ad2,rfl,-,hld2⟩:=HS.out.m1.loads HS.out.o1 hjl
    have HLD:=hD hld
    have HLD2:=hD hld2
    have HX:Hid (j3e (r.ins.getD i j14)):=(HT.out.o1.get hil).len
    have HY:Hid (j3e (s.ins.getD i j14)):=(HS.out.o1.get hjl).len
    clear hld hld2 hil hjl
    go_upto_region 4 with (fail)
    refine rgQ [0,1,2,3,4] [] EK rfl fun hw=>?_
    refine qw 2 hw ?_
    refine ql rfl (mT mH) trivial hw ?_
    refine qv rfl (fun u hu=>j0l underlying74 HN.out.1 u rfl) hw ?_
    refine qv rfl (fun u hu=>j0o u C4.out rfl rfl) hw ?_
    refine enP fun u23 EX22=>?_
    by_cases he:r.ins.getD i j14=s.ins.getD i j14
    case neg=>
     have HEQ:Hid ((!eqI (r.ins.getD i j14) (s.ins.getD i j14))=true):=by show _=_;unfold eqI;rw[decide_eq_false he];rfl
     have HF:Hid (j4g r s=false):=j9F fun e=>he (by rw[e])
     clear he
     go_upto_region 6 with (fail)
     refine rgK [0,1,2,3,4,5,6,7,8,9,10] 0 EX22 rfl fun hw=>?_
     refine qo rfl hw ?_
     refine ql rfl (mT mH) trivial hw ?_
     refine qo rfl hw ?_
     refine qv rfl (fun u hu=>j0h underlying74 aggIn.size HI.out u rfl rfl) hw ?_
     refine qv rfl (fun u hu=>j0a u (HLD.out u (nl hu)).1 rfl) hw ?_
     refine qo rfl hw ?_
     refine ql rfl mH trivial hw ?_
     refine qo rfl hw ?_
     refine qv rfl (fun u hu=>j0h underlying74 aggIn.size HI.out u rfl rfl) hw ?_
     refine qv rfl (fun u hu=>j0a u (HLD2.out u (nl hu)).1 rfl) hw ?_
     refine qv rfl (fun u hu=>j5D HX.out HY.out HEQ.out u rfl rfl) hw ?_
     refine eH fun u26 EX25=>?_
     have HBE:=hD (EnvX.bel EX25.out)
     go_wp2
     go_ret
     exact⟨by rw[HF.out];first|done|rfl,HBE.out⟩
    case pos=>
     have HEQ:Hid ((!eqI (r.ins.getD i j14) (s.ins.getD i j14))=false):=by show _=_;unfold eqI;rw[decide_eq_true he];rfl
     have H2:Hid (∀j,j<i+1→r.ins.getD j j14=s.ins.getD j j14):=fun j hj=>by
       rcases Nat.lt_or_ge j i with h|h
       · exact H1.out j h
       · rw[show j=i by omega];exact he
     clear he
     go_upto_region 6 with (fail)
     refine rgK [0,1,2,3,4,5,6,7,8,9,10] 0 EX22 rfl fun hw=>?_
     refine qo rfl hw ?_
     refine ql rfl (mT mH) trivial hw ?_
     refine qo rfl hw ?_
     refine qv rfl (fun u hu=>j0h underlying74 aggIn.size HI.out u rfl rfl) hw ?_
     refine qv rfl (fun u hu=>j0a u (HLD.out u (nl hu)).1 rfl) hw ?_
     refine qo rfl hw ?_
     refine ql rfl mH trivial hw ?_
     refine qo rfl hw ?_
     refine qv rfl (fun u hu=>j0h underlying74 aggIn.size HI.out u rfl rfl) hw ?_
     refine qv rfl (fun u hu=>j0a u (HLD2.out u (nl hu)).1 rfl) hw ?_
     refine qv rfl (fun u hu=>j5D HX.out HY.out HEQ.out u rfl rfl) hw ?_
     refine eH fun u26 EX25=>?_
     go_wp2
     go_roundw
     case rel=>exact⟨i+1,by omega,by go_num,H2.out,EX25.out⟩
     case measure=>simp[intOf];omega
  · obtain rfl:i=n1:=by omega
    have C4:Hid (decide ((i:Int)<(i:Int))=false):=decide_eq_false (by omega)
    go_upto_region 4 with (fail)
    refine rgQ [0,1,2,3,4] [] EK rfl fun hw=>?_
    refine qw 2 hw ?_
    refine ql rfl (mT mH) trivial hw ?_
    refine qv rfl (fun u hu=>j0l underlying74 HN.out.1 u rfl) hw ?_
    refine qv rfl (fun u hu=>j0o u C4.out rfl rfl) hw ?_
    refine enP fun u123 EX122=>?_
    have EM:=hD EX122.out
    clear EX122 EK
    go_upto_region 9 with (fail)
    go_loopw [6] (fun iv u=> ∃k:Nat,k≤n2∧iv= .int .i64 (k:Int)∧Hid ((∀j,j<k→r.outs.getD j j1d=s.outs.getD j j1d)∧EnvX w u [(w.heap.size+1,oc (txA ⟨s,B1,i,d1,B2,n2,d2⟩) 77),(w.heap.size,oc (txA ⟨r,A1,i,c1,A2,n2,c2⟩) 77)])) (fun iv _=>n2- (intOf iv).toNat)
    case atStart=>exact⟨0,by omega,rfl,(fun j hj=>by omega),EM.out⟩
    case round=>
     obtain⟨k,hk,rfl,hinv2⟩:=hrel
     have H3:=hD hinv2.out.1
     have EN:=hD hinv2.out.2
     clear hinv2 EM
     by_cases hlk:k<n2
     · have C9:Hid (decide ((k:Int)<(n2:Int))=true):=decide_eq_true (by omega)
       have HKK:=hD hlk
       have hil:k<r.outs.length:=by rw[HL.out.2];exact hlk
       have hjl:k<s.outs.length:=by rw[HK.out.2];exact hlk
       obtain⟨ad,rfl,-,hld⟩:=HT.out.m2.loads hil
       obtain⟨ad2,rfl,-,hld2⟩:=HS.out.m2.loads hjl
       have HLD:=hD hld
       have HLD2:=hD hld2
       clear hld hld2 hil hjl
       go_upto_region 9 with (fail)
       refine rgQ [0,1,2,3,4] [] EN rfl fun hw=>?_
       refine qw 2 hw ?_
       refine ql rfl (mT mH) trivial hw ?_
       refine qv rfl (fun u hu=>j0l underlying75 HN.out.2 u rfl) hw ?_
       refine qv rfl (fun u hu=>j0o u C9.out rfl rfl) hw ?_
       refine enP fun u223 EX222=>?_
       by_cases he:r.outs.getD k j1d=s.outs.getD k j1d
       case neg=>
         have HEQ:Hid ((!eqO (r.outs.getD k j1d) (s.outs.getD k j1d))=true):=by show _=_;unfold eqO;rw[decide_eq_false he];rfl
         have HF:Hid (j4g r s=false):=j9F fun e=>he (by rw[e])
         clear he
         go_upto_region 11 with (fail)
         refine rgK [0,1,2,3,4,5,6,7,8,9,10] 0 EX222 rfl fun hw=>?_
         refine qo rfl hw ?_
         refine ql rfl (mT mH) trivial hw ?_
         refine qo rfl hw ?_
         refine qv rfl (fun u hu=>j0h underlying75 aggOut.size HKK.out u rfl rfl) hw ?_
         refine qv rfl (fun u hu=>j0a u (HLD.out u (nl hu)).1 rfl) hw ?_
         refine qo rfl hw ?_
         refine ql rfl mH trivial hw ?_
         refine qo rfl hw ?_
         refine qv rfl (fun u hu=>j0h underlying75 aggOut.size HKK.out u rfl rfl) hw ?_
         refine qv rfl (fun u hu=>j0a u (HLD2.out u (nl hu)).1 rfl) hw ?_
         refine qv rfl (fun u hu=>j7O HEQ.out u rfl rfl) hw ?_
         refine eH fun u226 EX225=>?_
         have HBE:=hD (EnvX.bel EX225.out)
         go_wp2
         go_ret
         exact⟨by rw[HF.out];first|done|rfl,HBE.out⟩
       case pos=>
         have HEQ:Hid ((!eqO (r.outs.getD k j1d) (s.outs.getD k j1d))=false):=by show _=_;unfold eqO;rw[decide_eq_true he];rfl
         have H2:Hid (∀j,j<k+1→r.outs.getD j j1d=s.outs.getD j j1d):=fun j hj=>by
          rcases Nat.lt_or_ge j k with h|h
          · exact H3.out j h
          · rw[show j=k by omega];exact he
         clear he
         go_upto_region 11 with (fail)
         refine rgK [0,1,2,3,4,5,6,7,8,9,10] 0 EX222 rfl fun hw=>?_
         refine qo rfl hw ?_
         refine ql rfl (mT mH) trivial hw ?_
         refine qo rfl hw ?_
         refine qv rfl (fun u hu=>j0h underlying75 aggOut.size HKK.out u rfl rfl) hw ?_
         refine qv rfl (fun u hu=>j0a u (HLD.out u (nl hu)).1 rfl) hw ?_
         refine qo rfl hw ?_
         refine ql rfl mH trivial hw ?_
         refine qo rfl hw ?_
         refine qv rfl (fun u hu=>j0h underlying75 aggOut.size HKK.out u rfl rfl) hw ?_
         refine qv rfl (fun u hu=>j0a u (HLD2.out u (nl hu)).1 rfl) hw ?_
         refine qv rfl (fun u hu=>j7O HEQ.out u rfl rfl) hw ?_
         refine eH fun u226 EX225=>?_
         go_wp2
         go_roundw
         case rel=>exact⟨k+1,by omega,by go_num,H2.out,EX225.out⟩
         case measure=>simp[intOf];omega
     · obtain rfl:k=n2:=by omega
       have C9:Hid (decide ((k:Int)<(k:Int))=false):=decide_eq_false (by omega)
       have HF:Hid (j4g r s=true):=q9W (by rw[HL.out.1,HK.out.1]) (by rw[HL.out.2,HK.out.2]) (fun q hq=>H1.out q (by rw[←HL.out.1];exact hq)) (fun q hq=>H3.out q (by rw[←HL.out.2];exact hq))
       go_upto_region 9 with (fail)
       refine rgQ [0,1,2,3,4] [] EN rfl fun hw=>?_
       refine qw 2 hw ?_
       refine ql rfl (mT mH) trivial hw ?_
       refine qv rfl (fun u hu=>j0l underlying75 HN.out.2 u rfl) hw ?_
       refine qv rfl (fun u hu=>j0o u C9.out rfl rfl) hw ?_
       refine enP fun u323 EX322=>?_
       have HBE:=hD (EnvX.bel EX322.out)
       go_wp2
       go_ret
       exact⟨by rw[HF.out];first|done|rfl,HBE.out⟩
section
variable {a:Act}{dst:Option Tmp}{x y:Operand}{ty:TypeId}{pos:String}{after:Array Edge}{gd:Option (Nat × Bool)}
end
def FreshY(xs:List Int)(v:Value)(N:j0e):Prop:=FreshR 5 1 xs.length (xs.map u8v) v N
def j8n(w0:World)(xs:List Int)(M0:j0e)(v:Value)(M':j0e):Prop:= ∃N,M'=N++M0∧FreshY xs v N∧j01 w0 N M0
theorem FreshY.nil:FreshY [] (.slice none 0 0) []:= .inr ⟨rfl,rfl,rfl,rfl⟩
theorem FreshY.own{w:World}{B:Nat}{xs:List Int}{v:Value}{N:j0e}(h:FreshY xs v N)(hN: ∀y∈N,B≤y.1∧w.heap[y.1]?=some y.2):OwnB w B v xs:=
 FreshR.own h (by rw[lM,Nat.mul_one]) hN
theorem j7L{w0 u:World}{M:j0e}(M0:j0e){N:j0e}{m c:Nat}{xs ys:List Int}{v:Value}{ad:Addr}{a:Act}{dst:Option Tmp}{y x:Operand}{pos:String}{after:Array Edge}{gd:Option (Nat × Bool)}
  (hu:EnvX w0 u M) (hm:ys.length=m) (hF:FreshY xs v N) (hN: ∀y∈N,y∈M∧w0.heap.size≤y.1) (hc:j53 u ad (ys.map u8v)) (hM0: ∀z∈M0,z∈M∧ ∀y∈N,z.1≠y.1) (hs:xs.length+m≤2000000)
  (hyv:a.eval y=v) (hx:a.eval x= .slice (some ad) m c):
  ∃v' u' M',(execOp a.eval ⟨dst, .call {callee:= .builtin .append,args:= #[y,x],argTypes:= #[100,100]},100,pos,after,gd⟩).run Tryz.prog u= .ok (.value v') u'∧EnvX w0 u' M'∧j8n w0 (xs++ys) M0 v' M':=by
 obtain⟨v',u',M',h1,h2,N',e,h3,h4⟩:=j1H (dst:=dst) (pos:=pos) (after:=after) (gd:=gd) elB M0 hu (n:=xs.length) (m:=m) (c:=c) (by rw[lM,Nat.mul_one]) (by rw[lM,hm,Nat.mul_one]) x3N hF hN hc hM0 hs hyv hx
 refine⟨v',u',M',h1,h2,N',e,?_,h4⟩
 unfold FreshY
 rw[lA,hm,List.map_append]
 exact h3
theorem j5B{w0 u:World}{M:j0e}{g n:Nat}{cur:Array Value}{xs:List Int}(hu:EnvC w0 M u)(hm:(g,oc cur 5)∈M)(hl:xs.length=n)(h:cur.toList.take (n*1)=xs.map u8v):j53 u ⟨g,0,none⟩ (xs.map u8v):=
 j1p hu hm (by rw[List.drop_zero,lM,hl,←Nat.mul_one n];exact h)
theorem q8n:Tryz.prog.built 26 []=some (j0d 32 z32):=by kernel_rfl
section
variable {a:Act}{dst:Option Tmp}{x y z:Operand}{ty:TypeId}{pos:String}{after:Array Edge}{gd:Option (Nat × Bool)}
theorem q0Q{A0 A1:Option Addr}{n0 n1 c0 c1:Nat}(hx:a.eval x= .slice A0 n0 c0)(hy:a.eval y= .slice A1 n1 c1)(u:World):
  FAt Tryz.prog ⟨dst, .buildSlice 139 2 #[(0,x),(1,y)],ty,pos,after,gd⟩ a (fun v N=> ∃g,v= .slice (some ⟨g,0,none⟩) 2 2∧N=[(g,oc #[.slice A0 n0 c0, .slice A1 n1 c1] 100)]) u:=by
 have h:(execOp a.eval ⟨dst, .buildSlice 139 2 #[(0,x),(1,y)],ty,pos,after,gd⟩).run Tryz.prog u= .ok (.value (.slice (some ⟨u.heap.size,0,none⟩) 2 2)) (u.alloc (.cells #[.slice A0 n0 c0, .slice A1 n1 c1] 100)):=by
  unfold execOp
  simp only[List.map_toArray,List.map_cons,List.map_nil,hx,hy]
  go_simp
 unfold FAt
 rw[h]
 refine⟨(Below.refl _ _).alloc (Nat.le_refl _) _,_,⟨_,rfl,rfl⟩,fun y hy=>?_⟩
 cases mS.1 hy
 exact⟨Nat.le_refl _,heap_alloc_new u _⟩
end
theorem j5x{α β:Type}(F:List α)(g:α→β)(d:α){k:Nat}(hk:k<F.length):(F.take (k+1)).map g=(F.take k).map g++[g (F.getD k d)]:=by
 rw[List.take_succ_eq_append_getElem hk,List.map_append,gD,gE hk]
 rfl
theorem q3b{α:Type}(F:List α)(d:α){k:Nat}(hk:k<F.length):F.getD k d∈F:=by
 rw[gD,gE hk]
 exact List.getElem_mem hk
def j79(l:List InR)(i:Nat):List Int:=[(l.length:Int)]++((l.take i).map inB).flatten
def j4p(r:TxR)(j:Nat):List Int:=j79 r.ins r.ins.length++[(r.outs.length:Int)]++((r.outs.take j).map x3s).flatten
theorem q7u{l:List InR}{i:Nat}(h:i<l.length):j79 l (i+1)=j79 l i++(l.getD i j14).tx++[(l.getD i j14).i]:=by
 unfold j79
 rw[j5x l inB j14 h,List.flatten_append,List.flatten_singleton]
 unfold inB
 simp only[aA]
theorem q5n{r:TxR}{j:Nat}(h:j<r.outs.length):j4p r (j+1)=j4p r j++j2O (r.outs.getD j j1d).v.toNat 6++[(r.outs.getD j j1d).tw]:=by
 unfold j4p
 rw[j5x r.outs x3s j1d h,List.flatten_append,List.flatten_singleton]
 unfold x3s
 simp only[aA]
theorem q7Y(r:TxR):j4p r r.outs.length=j3K r:=by
 unfold j4p j79 j3K
 rw[List.take_length,List.take_length]
 simp only[aA,List.cons_append,List.nil_append,List.singleton_append]
theorem q1K{l:List InR}(h:okIns l)(i:Nat):(j79 l i).length≤1+33*l.length:=by
 unfold j79
 rw[lA,flat_len (q3P (h.take i)),lM,List.length_take]
 show 1+_≤_
 have:33*min i l.length≤33*l.length:=Nat.mul_le_mul_left 33 (Nat.min_le_right ..)
 omega
theorem q9P{r:TxR}(h:okX r)(j:Nat):(j4p r j).length≤2+33*r.ins.length+7*r.outs.length:=by
 unfold j4p
 have:=q1K h.1 r.ins.length
 rw[lA,lA,flat_len (q0y _),lM,List.length_take]
 have:7*min j r.outs.length≤7*r.outs.length:=Nat.mul_le_mul_left 7 (Nat.min_le_right ..)
 show _+1+_≤_
 omega
def x3v(w:World)(M0:j0e)(xs:List Int)(v:Value)(u:World):Prop:= ∃N,FreshY xs v N∧j01 w N M0∧EnvX w u (N++M0)
def lvN(lev:Int):Nat:=(min lev 31).toNat
theorem x1A(lev:Int):lvN lev≤31:=by unfold lvN;omega
def j3L(x:List Int)(r:List (List Int))(id:List Int)(k:Nat):List (List Int):=x::(List.replicate k id++r.drop k)
def j5w (l:List (List Int)) (id:List Int) (lev:Int):List (List Int):=
  if 32<l.length then []else match l with
    |[]=>[id]
    |x::r=>j3L x r id (lvN lev)
theorem q3k(x:List Int)(r:List (List Int))(id:List Int)(k:Nat):(j3L x r id k).length=1+(k+(r.length- k)):=by
 unfold j3L
 rw[List.length_cons,lA,List.length_replicate,List.length_drop]
 omega
theorem q7V(x:List Int)(r:List (List Int))(id:List Int):j3L x r id 0=x::r:=rfl
theorem q9M{x:List Int}{r:List (List Int)}{id:List Int}{k:Nat}(h:k<r.length):(j3L x r id k).set (k+1) id=j3L x r id (k+1):=by
 unfold j3L
 rw[List.set_cons_succ]
 congr 1
 apply List.ext_getElem (by simp;omega)
 intro j h1 h2
 rw[List.getElem_set]
 by_cases e:k=j
 · subst e
   rw[if_pos rfl,List.getElem_append_left (by simp),List.getElem_replicate]
 · rw[if_neg e]
   by_cases e2:j<k
   · rw[List.getElem_append_left (by simpa using e2),List.getElem_append_left (by simp;omega),List.getElem_replicate,List.getElem_replicate]
   · rw[List.getElem_append_right (by simp;omega),List.getElem_append_right (by simp;omega),List.getElem_drop,List.getElem_drop]
     congr 1
     simp only[List.length_replicate]
     omega
theorem q9n{x:List Int}{r:List (List Int)}{id:List Int}{k:Nat}(h:r.length≤k):j3L x r id k++[id]=j3L x r id (k+1):=by
 unfold j3L
 rw[List.drop_of_length_le h,List.drop_of_length_le (by omega),List.append_nil,List.append_nil,List.cons_append,List.replicate_succ']
theorem q3r{x:List Int}{r:List (List Int)}{id:List Int}{k:Nat}(hx:isIds (x::r))(hid:j3C id):isIds (j3L x r id k):=by
 intro y hy
 unfold j3L at hy
 rcases List.mem_cons.1 hy with rfl|h
 · exact hx y (List.mem_cons_self ..)
 · rcases List.mem_append.1 h with h|h
   · rw[List.eq_of_mem_replicate h];exact hid
   · exact hx y (mT (List.mem_of_mem_drop h))
theorem q9z{l:List (List Int)}{id:List Int}{lev:Int}(hl:isIds l)(hid:j3C id):isIds (j5w l id lev):=by
 unfold j5w
 split
 · intro y hy;cases hy
 · cases l with
   |nil=>intro y hy;cases mS.1 hy;exact hid
   |cons x r=>exact q3r hl hid
theorem q6a{l:List (List Int)}{id:List Int}{lev:Int}(h:32<l.length):j5w l id lev=[]:=by unfold j5w;rw[if_pos h]
theorem q6v(id:List Int)(lev:Int):j5w [] id lev=[id]:=rfl
theorem q5S{x:List Int}{r:List (List Int)}{id:List Int}{lev:Int}(h:r.length+1≤32):j5w (x::r) id lev=j3L x r id (lvN lev):=by unfold j5w;rw[if_neg (by rw[List.length_cons];omega)]
theorem q92{l:List (List Int)}{id:List Int}{lev:Int}:(j5w l id lev).length≤32:=by
 unfold j5w
 split
 · exact Nat.zero_le _
 · rename_i h
   cases l with
   |nil=>exact(by decide:1≤32)
   |cons x r=>
    have:=x1A lev
    rw[q3k]
    rw[List.length_cons]at h
    omega
def j1x(l:List (List Int)):List (List Int):=l.map j4q
theorem j7B(l:List (List Int)):(j1x l).length=l.length:=List.length_map _
theorem j3w(l:List (List Int)):isIds (j1x l):=fun x hx=>by
 obtain⟨y,_,rfl⟩:=List.mem_map.1 hx
 exact⟨j1V _,j3v _⟩
theorem IdsIn.at{w:World}{B:Nat}{A:Option Addr}{l:List (List Int)}(h:IdsIn w B A l)(hl:isIds l){i:Nat}(hi:i<l.length): ∃ad,A=some ad∧Bytes w B (some (ad.add (i*32))) (l.getD i []):=by
 have hfl:=hl.flat_len
 obtain⟨ad,e,hb,hc⟩:=h (by omega)
 refine⟨ad,e,fun _=>⟨_,rfl,by rw[j0N];exact hb,fun j v hv=>?_⟩⟩
 rw[q5U]
 have hj:j<32:=by
  rcases Nat.lt_or_ge j 32 with h'|h'
  · exact h'
  · rw[gN (by rw[lM,(hl.get hi).1];exact h')]at hv
    cases hv
 refine hc (i*32+j) v ?_
 rw[List.getElem?_map,hl.flat_get i j hi hj]
 rwa[List.getElem?_map]at hv
theorem FreshI.form{l:List (List Int)}{x:Value}{N:j0e}(h:FreshI l x N): ∃A c,x= .slice A l.length c∧l.length≤c∧c≤maxLen:=by
 rcases h with ⟨g,cap,cur,rfl,_,h1,h2,_⟩|⟨rfl,_,rfl⟩
 · exact⟨_,cap,rfl,h1,h2⟩
 · exact⟨none,0,rfl,Nat.le_refl _,Nat.zero_le _⟩
theorem FreshI.ids{w0 u:World}{M N:j0e}{l:List (List Int)}{A:Option Addr}{n c:Nat}(h:FreshI l (.slice A n c) N)(hl:isIds l)(hu:EnvX w0 u M)(hN: ∀y∈N,y∈M):IdsIn u u.heap.size A l:=
 OwnI.ids (h.own (B:=0) hl (fun y hy=>⟨Nat.zero_le _,EnvX.box hu _ _ (hN y hy)⟩))
theorem q1s{l:List (List Int)}{k:Nat}(h:k<l.length):j1x (l.take (k+1))=j1x (l.take k)++[j4q (l.getD k [])]:=by
 unfold j1x
 exact j5x l j4q [] h
theorem q4j{u:World}{B g k:Nat}{xs:List Int}(hg:g<B)(h:j53 u ⟨g,k,none⟩ (xs.map u8v)):Bytes u B (some ⟨g,k,none⟩) xs:=fun _=>⟨_,rfl,hg,h⟩
theorem x33{x:List Int}(h:x.length=32):((j0d 32 x).toList.drop 0).take (x.map u8v).length=x.map u8v:=by
 rw[j1F h,List.drop_zero,List.take_length]
def rsT(l:List TxM):List TxR:=l.map (·.r)
theorem q8r{l:List TxM}{k:Nat}(h:k<l.length):j7E (rsT (l.take (k+1)))=j7E (rsT (l.take k))++[idX (l.getD k j0A).r]:=by
 unfold j7E rsT
 rw[List.map_map,List.map_map]
 exact j5x l (idX∘ (·.r)) j0A h
theorem q3v(l:List TxM):(j7E (rsT l)).length=l.length:=by unfold j7E rsT;rw[lM,lM]
theorem q02{x:InR}(h:x.tx.length≤32):(inA x).size=33:=by
 unfold inA inC
 rw[List.size_toArray,lA,Array.length_toList,j0c _ _ h]
 rfl
theorem FreshR.formR{e:TypeId}{z n:Nat}{xs:List Value}{x:Value}{N:j0e}(h:FreshR e z n xs x N): ∃A c,x= .slice A n c∧n≤c∧c≤maxLen:=by
 rcases h with ⟨g,cap,cur,rfl,_,h1,h2,_⟩|⟨rfl,_,rfl,_⟩
 · exact⟨_,cap,rfl,h1,h2⟩
 · exact⟨none,0,rfl,Nat.le_refl _,Nat.zero_le _⟩
section
variable {a:Act}{dst:Option Tmp}{x y:Operand}{ty:TypeId}{pos:String}{after:Array Edge}{gd:Option (Nat × Bool)}
end
open Go.ChangeShapes Go.WideShapes Go.ChangeAt Go.RowKit Go.Deep
theorem j69:Tryz.prog.cellsOf 3=1:=by kernel_rfl
theorem q2Z:Tryz.prog.cellsOf 133=33:=by kernel_rfl
theorem q0w:Tryz.prog.cellsOf 135=2:=by kernel_rfl
theorem q28:Tryz.prog.cellsOf 77=2:=by kernel_rfl
theorem q7w:Tryz.prog.cellsOf 74=1:=by kernel_rfl
theorem q5a:Tryz.prog.cellsOf 75=1:=by kernel_rfl
section
variable {H:Type}{enc:TypeId × Value→H}{W:World}{base:Nat}{spare:Nat→Bool}{held:Bool}{fuel:Nat}{cs:List Value}{x:DataW H × List MemPlace}
theorem x0P(h:DataW.trod enc Tryz.prog W base spare held fuel 133 cs=some x): ∃t:InR,okIn t∧cs=inC t:=by
 obtain⟨y0,y1,n,_,hl,h0,h1⟩:=trod_struct2 underlying133 h
 rw[q2Z]at hl
 obtain⟨hs,k1,k2,e0⟩:=j4W h0
 obtain⟨i,e1,_,wf⟩:=DataW.trod_int underlying3 h1
 have e0':cs.take 32=hs.map u8v:=by
  have h:=e0
  rw[show Tryz.prog.cellsOf 26=32 from j5K]at h
  exact h
 have e1':(cs.drop 32).take 1=[.int .i64 i]:=by
  have h:=e1
  rw[show Tryz.prog.cellsOf 3=1 from j69]at h
  exact h
 refine⟨⟨hs,i⟩,⟨⟨k1,k2⟩,bounds_i64 wf⟩,?_⟩
 unfold inC
 show cs=(j0d 32 hs).toList++[.int .i64 i]
 rw[j1F k1,←e0',←e1',List.take_of_length_le (l:=cs.drop 32) (by rw[List.length_drop];omega),List.take_append_drop]
theorem q6O(h:DataW.trod enc Tryz.prog W base spare held fuel 135 cs=some x): ∃t:OutR,q0l t∧cs=j6Q t:=by
 obtain⟨y0,y1,n,_,hl,h0,h1⟩:=trod_struct2 underlying135 h
 rw[q0w]at hl
 obtain⟨v,e0,_,wv⟩:=DataW.trod_int underlying3 h0
 obtain⟨i,e1,_,wf⟩:=DataW.trod_int underlying3 h1
 have e0':cs.take 1=[.int .i64 v]:=by
  have h:=e0
  rw[show Tryz.prog.cellsOf 3=1 from j69]at h
  exact h
 have e1':(cs.drop 1).take 1=[.int .i64 i]:=by
  have h:=e1
  rw[show Tryz.prog.cellsOf 3=1 from j69]at h
  exact h
 refine⟨⟨v,i⟩,⟨bounds_i64 wv,bounds_i64 wf⟩,?_⟩
 show cs=[.int .i64 v]++[.int .i64 i]
 rw[←e0',←e1',List.take_of_length_le (l:=cs.drop 1) (by rw[List.length_drop];omega),List.take_append_drop]
end
section
variable {H:Type}{enc:TypeId × Value→H}{W:World}{base:Nat}{v:Value}{d:DataW H}{p:List MemPlace}{fuel:Nat}{cs:List Value}{x:DataW H × List MemPlace}
end
def j2n:List Int→List Int→Bool
  |x::xs,y::ys=>if x=y then j2n xs ys else decide (x<y)
  |_,_=>false
theorem q6F(l:List Int)(k:Nat)(h:k<l.length):l.drop k=l.getD k 0::l.drop (k+1):=by
 rw[List.drop_eq_getElem_cons h]
 simp[List.getD,gE h]
theorem q8L(xs ys:List Int)(k:Nat)(hx:k<xs.length)(hy:k<ys.length):
  (xs.getD k 0=ys.getD k 0→j2n (xs.drop k) (ys.drop k)=j2n (xs.drop (k+1)) (ys.drop (k+1)))∧
  (xs.getD k 0≠ys.getD k 0→j2n (xs.drop k) (ys.drop k)=decide (xs.getD k 0<ys.getD k 0)):=by
 rw[q6F xs k hx,q6F ys k hy]
 exact⟨fun h=>by simp only[j2n];rw[if_pos h],fun h=>by simp only[j2n];rw[if_neg h]⟩
theorem x0C(xs ys:List Int)(w:World)(hx:xs.length=32)(hy:ys.length=32):
  Rz 233 #[.agg (j0d 32 xs), .agg (j0d 32 ys)] w (.bool (j2n xs ys)):=by
 unfold Rz
 have HX:=hD hx
 have HY:=hD hy
 clear hx hy
 go_enter func233,ntmps233
 go_wp2_with fail
 go_loopw [6] (fun i u=> ∃k:Nat,k≤32∧i= .int .i64 k∧Below w.heap.size w u∧Hid (Row u w.heap.size 26 (j0d 32 xs)∧Row u (w.heap.size+1) 26 (j0d 32 ys)∧j2n xs ys=j2n (xs.drop k) (ys.drop k))) (fun i _=>32- (intOf i).toNat)
 case atStart=>exact⟨0,by omega,rfl,by go_grown,(Row.new w 26 _).alloc _,Row.newAt (by simp) 26 _,rfl⟩
 case round=>
  obtain⟨k,hk,rfl,hbl,hrows⟩:=hrel
  obtain⟨r0,r1,hq⟩:=hrows.out
  by_cases hlt:k<32
  · have e0:wr.cell? ⟨w.heap.size,k,none⟩=some (.int .u8 (xs.getD k 0)):=(r0.cell k).trans (j1U 32 _ k (by rw[HX.out];omega) hlt)
    have e1:wr.cell? ⟨w.heap.size+1,k,none⟩=some (.int .u8 (ys.getD k 0)):=(r1.cell k).trans (j1U 32 _ k (by rw[HY.out];omega) hlt)
    have hs:=hD (q8L xs ys k (by rw[HX.out];exact hlt) (by rw[HY.out];exact hlt))
    have R0:=hD r0
    have R1:=hD r1
    have HQ:=hD hq
    clear r0 r1 hq hrows
    generalize xs.getD k 0=x at *
    generalize ys.getD k 0=y at *
    have hl2:(k:Int)<32:=by omega
    by_cases hxy:x=y
    · subst hxy
      have hne:(x !=x)=false:=by simp
      have hs1:=hD (HQ.out.trans (hs.out.1 rfl))
      clear hs HQ
      go_wp2_with fail
      go_quiet (fail)
      go_wp2
      go_roundw
      case rel=>exact⟨k+1,by omega,by go_num,j2Z hbl _,R0.out.drewN _,R1.out.drewN _,hs1.out⟩
      case measure=>simp[intOf];omega
    · have hne:(x !=y)=true:=by simpa using hxy
      have hfin:=hD (HQ.out.trans (hs.out.2 hxy))
      clear hxy
      go_wp2_with fail
      go_quiet (fail)
      go_wp2_with fail
      go_quiet (fail)
      go_wp2
      go_ret
      exact⟨by rw[hfin.out];rfl,j2Z (j2Z hbl _) _⟩
  · obtain rfl:k=32:=by omega
    have hfin:Hid (j2n xs ys=false):=by
      show _=_
      rw[hq,List.drop_eq_nil_of_le (by rw[HX.out];exact Nat.le_refl _)]
      rfl
    clear r0 r1 hq hrows
    go_wp2
    go_ret
    exact⟨by rw[hfin.out];rfl,hbl⟩
theorem j48: ∀(n:Nat)(xs ys:List Int),xs.length=n→ys.length=n→(j2n xs ys=true∧j2n ys xs=false∧eqL xs ys=false)∨(j2n xs ys=false∧j2n ys xs=true∧eqL xs ys=false)∨(j2n xs ys=false∧j2n ys xs=false∧eqL xs ys=true)
 |0,[],[],_,_=>by simp[j2n,eqL]
 |n+1,x::xs,y::ys,h1,h2=>by
  have ih:=j48 n xs ys (by simpa using h1) (by simpa using h2)
  simp only[j2n,eqL,List.cons.injEq]at ih ⊢
  rcases Int.lt_trichotomy x y with h|h|h
  · left;simp[show¬x=y by omega,show¬y=x by omega,h];omega
  · subst h;simpa using ih
  · right;left;simp[show¬x=y by omega,show¬y=x by omega,h];omega
theorem j8o: ∀(n:Nat)(xs ys zs:List Int),xs.length=n→ys.length=n→zs.length=n→j2n xs ys=true→j2n ys zs=true→j2n xs zs=true
 |0,[],[],[],_,_,_=>by simp[j2n]
 |n+1,x::xs,y::ys,z::zs,h1,h2,h3=>by
  have ih:=j8o n xs ys zs (by simpa using h1) (by simpa using h2) (by simpa using h3)
  simp only[j2n]
  intro a b
  by_cases e1:x=y
  · subst e1
    by_cases e2:x=z
    · subst e2;simp at a b ⊢;exact ih a b
    · simp[e2]at b ⊢;exact b
  · by_cases e2:y=z
    · subst e2;simp[e1]at a ⊢;exact a
    · simp[e1]at a
      simp[e2]at b
      simp[show¬x=z by omega];omega
structure CoinR where
  tx:List Int
  i:Int
  v:Int
  tw:Int
deriving DecidableEq
def j8v:CoinR:=⟨z32,0,0,0⟩
def j0W(c:CoinR):InR:=⟨c.tx,c.i⟩
def j9h(c:CoinR):OutR:=⟨c.v,c.tw⟩
def okCoin(c:CoinR):Prop:=j3C c.tx∧I64 c.i∧I64 c.v∧I64 c.tw
def okP(p:List CoinR):Prop:= ∀c∈p,okCoin c
def idP(p:List CoinR):Prop:= ∀c∈p,j3C c.tx
theorem okP.id{p:List CoinR}(h:okP p):idP p:=fun c hc=>(h c hc).1
def j0u(a b:InR):Bool:=j2n a.tx b.tx||(decide (a.tx=b.tx) && decide (a.i<b.i))
def j1c(c:CoinR):Bool:=decide (0≤c.i∧c.i≤2∧1≤c.v∧c.v≤1099511627776∧0≤c.tw∧c.tw≤255)
def upP(p:List CoinR):Prop:=p.Pairwise fun a b=>j0u (j0W a) (j0W b)=true
instance (p:List CoinR):Decidable (upP p):=inferInstanceAs (Decidable (p.Pairwise _))
def j3h(p:List CoinR):Bool:=decide (p.length≤48∧(∀c∈p,j1c c=true)∧upP p)
def j6E(a b:List CoinR):Bool:=decide (a=b)
def j4s(p:List CoinR)(x:InR):Int:=match p.findIdx? (fun c=>decide (j0W c=x))with
  |some k=>k
  |none=> -1
def j5Y(p:List CoinR):Int:=(p.map (·.v)).sum
def j5o:List CoinR→CoinR→List CoinR
  |[],c=>[c]
  |d::r,c=>if j0u (j0W c) (j0W d)then c::d::r else d::j5o r c
def j19(p:List CoinR)(id:List Int):Bool:=p.any fun c=>decide (c.tx=id)
def j18(id:List Int):Int→List OutR→List CoinR
  |_,[]=>[]
  |i,o::os=>⟨id,i,o.v,o.tw⟩::j18 id (i+1) os
def j1y(p:List CoinR)(cs:List CoinR):List CoinR:=cs.foldl j5o p
def j2F(t:TxR):Int:=(t.outs.map (·.v)).sum
def j1Z:List CoinR→List InR→Option (List CoinR × Int)
  |l,[]=>some (l,0)
  | l,x::xs=>match l.find? (fun c=>decide (j0W c=x))with
    |none=>none
    | some c=>match j1Z (l.eraseP fun c=>decide (j0W c=x)) xs with
      |none=>none
      |some r=>some (r.1,c.v+r.2)
def j0x (p:List CoinR) (t:TxR):List CoinR × Int × Nat:=
  if j3h p&& j4z t&& decide (t.ins≠[])then
    match j1Z p t.ins with
    |none=>(p,0,8)
    |some (l,n)=>if n<j2F t then (p,0,8)else if j19 l (idX t)then (p,0,10)else if 48<(j1y l (j18 (idX t) 0 t.outs)).length then (p,0,11)else (j1y l (j18 (idX t) 0 t.outs),n- j2F t,0)
  else (p,0,1)
def j3U:List CoinR→Int→List TxR→Except Nat (List CoinR × Int)
  |p,n,[]=> .ok (p,n)
  | p,n,t::l=>match j0x p t with
    |(q,m,0)=>j3U q (n+m) l
    |(_,_,e+1)=> .error (e+1)
def j2P(l:List TxR):Bool:=match l with
  |[]=>false
  |t::_=>decide (t.ins=[])
def j0t (p:List CoinR) (l:List TxR):List CoinR × Nat:=
  if j3h p=false then (p,1)else if 4<l.length then (p,3)else
  match j3U p 0 (if j2P l then l.tail else l)with
  | .error e=>(p,e)
  | .ok (q,n)=>match l with
    |[]=>(q,0)
    |t::_=>if t.ins≠[]then (q,0)else if j4z t=false then (p,1)else if j19 q (idX t)then (p,10)else if 50+n<j2F t then (p,8)else if 48<(j1y q (j18 (idX t) 0 t.outs)).length then (p,11)else (j1y q (j18 (idX t) 0 t.outs),0)
theorem j46{x:List Int}(h:x.length=32):j2n x x=false:=by
 rcases j48 32 x x h h with ⟨a,b,_⟩|⟨a,b,_⟩|⟨a,_,_⟩
 · rw[a]at b;cases b
 · exact a
 · exact a
theorem q7x{a:InR}(h:j3C a.tx):j0u a a=false:=by
 unfold j0u
 rw[j46 h.1]
 simp
theorem j31{a b c:InR}(ha:j3C a.tx)(hb:j3C b.tx)(hc:j3C c.tx)(h1:j0u a b=true)(h2:j0u b c=true):j0u a c=true:=by
 unfold j0u at *
 simp only[Bool.or_eq_true,Bool.and_eq_true,decide_eq_true_eq]at *
 rcases h1 with h1|⟨e1,i1⟩
 · rcases h2 with h2|⟨e2,i2⟩
   · exact .inl (j8o 32 _ _ _ ha.1 hb.1 hc.1 h1 h2)
   · exact .inl (by rw[←e2];exact h1)
 · rcases h2 with h2|⟨e2,i2⟩
   · exact .inl (by rw[e1];exact h2)
   · exact .inr ⟨e1.trans e2,by omega⟩
theorem q5O{a b:InR}(ha:j3C a.tx)(hb:j3C b.tx)(hn:j0u a b=false)(hne:a≠b):j0u b a=true:=by
 unfold j0u at *
 simp only[Bool.or_eq_true,Bool.or_eq_false_iff,Bool.and_eq_true,Bool.and_eq_false_iff,decide_eq_true_eq,decide_eq_false_iff_not]at *
 obtain⟨n1,n2⟩:=hn
 rcases j48 32 a.tx b.tx ha.1 hb.1 with ⟨x,_,_⟩|⟨_,y,_⟩|⟨_,_,z⟩
 · rw[x]at n1;cases n1
 · exact .inl y
 · have e:a.tx=b.tx:=of_decide_eq_true z
   have hi:a.i≠b.i:=fun hi=>hne (by cases a;cases b;simp only at e hi;rw[e,hi])
   rcases n2 with n2|n2
   · exact absurd e n2
   · exact .inr ⟨e.symm,by omega⟩
theorem x3H{a b:InR}(ha:j3C a.tx)(h:j0u a b=true):a≠b:=fun e=>by
 subst e
 rw[q7x ha]at h
 cases h
theorem j5b(p:List CoinR)(c:CoinR):(j5o p c).Perm (c::p):=by
 induction p with
 |nil=>exact List.Perm.refl _
 |cons d r ih=>
  unfold j5o
  split
  · exact List.Perm.refl _
  · exact(List.Perm.cons d ih).trans (List.Perm.swap c d r)
theorem x0c{p:List CoinR}{c:CoinR}(hp:idP p)(hc:j3C c.tx)(hu:upP p)(hn: ∀d∈p,j0W d≠j0W c):upP (j5o p c):=by
 induction p with
 |nil=>exact List.pairwise_singleton _ _
 |cons d r ih=>
  have hd:=hp d (List.mem_cons_self ..)
  have hr:idP r:=fun x hx=>hp x (mT hx)
  obtain⟨h1,h2⟩:=List.pairwise_cons.1 hu
  unfold j5o
  split
  · rename_i hb
    refine List.pairwise_cons.2 ⟨fun x hx=>?_,hu⟩
    rcases List.mem_cons.1 hx with rfl|hx
    · exact hb
    · exact j31 hc hd (hr x hx) hb (h1 x hx)
  · rename_i hb
    refine List.pairwise_cons.2 ⟨fun x hx=>?_,ih hr h2 (fun y hy=>hn y (mT hy))⟩
    rcases List.mem_cons.1 ((j5b r c).mem_iff.1 hx)with rfl|hx
    · exact q5O hc hd (by simpa using hb) (fun e=>hn d (List.mem_cons_self ..) e.symm)
    · exact h1 x hx
theorem j3l: ∀(cs p:List CoinR),(j1y p cs).Perm (cs++p)
 |[],p=>List.Perm.refl _
 |c::cs,p=>by
  show (j1y (j5o p c) cs).Perm _
  refine(j3l cs (j5o p c)).trans ?_
  refine(List.Perm.append_left cs (j5b p c)).trans ?_
  exact List.perm_middle
theorem q2Q: ∀(cs p:List CoinR),idP p→(∀c∈cs,j3C c.tx)→upP p→(∀d∈p,∀c∈cs,j0W d≠j0W c)→cs.Pairwise (fun a b=>j0W a≠j0W b)→upP (j1y p cs)
 |[],p,_,_,hu,_,_=>hu
 |c::cs,p,hp,hc,hu,hn,hd=>by
  obtain⟨d1,d2⟩:=List.pairwise_cons.1 hd
  refine q2Q cs (j5o p c) (fun x hx=>?_) (fun x hx=>hc x (mT hx)) (x0c hp (hc c (List.mem_cons_self ..)) hu (fun d hd=>hn d hd c (List.mem_cons_self ..))) (fun x hx y hy=>?_) d2
  · rcases List.mem_cons.1 ((j5b p c).mem_iff.1 hx)with rfl|hx
    · exact hc _ (List.mem_cons_self ..)
    · exact hp x hx
  · rcases List.mem_cons.1 ((j5b p c).mem_iff.1 hx)with rfl|hx
    · exact d1 y hy
    · exact hn x hx y (mT hy)
theorem q0e{p q:List CoinR}(h:p.Perm q):j5Y p=j5Y q:=by
 unfold j5Y
 induction h with
 |nil=>rfl
 |cons x _ ih=>simp only[List.map_cons,List.sum_cons,ih]
 |swap x y l=>simp only[List.map_cons,List.sum_cons];omega
 |trans _ _ h1 h2=>exact h1.trans h2
theorem q83(p q:List CoinR):j5Y (p++q)=j5Y p+j5Y q:=by
 unfold j5Y
 rw[List.map_append,List.sum_append]
theorem j7N(c:CoinR)(p:List CoinR):j5Y (c::p)=c.v+j5Y p:=by unfold j5Y;rw[List.map_cons,List.sum_cons]
theorem j4h{id:List Int}: ∀{os:List OutR}{i:Int}{c:CoinR},c∈j18 id i os→c.tx=id∧i≤c.i∧c.i<i+os.length∧j9h c∈os
 |[],i,c,h=>by cases h
 |o::os,i,c,h=>by
  rcases List.mem_cons.1 h with rfl|h
  · exact⟨rfl,Int.le_refl _,by simp only[List.length_cons];omega,List.mem_cons_self ..⟩
  · obtain⟨h1,h2,h3,h4⟩:=j4h h
    exact⟨h1,by omega,by simp only[List.length_cons];omega,mT h4⟩
theorem j5u(id:List Int): ∀(os:List OutR)(i:Int),(j18 id i os).length=os.length
 |[],_=>rfl
 |o::os,i=>by unfold j18;rw[List.length_cons,j5u id os,List.length_cons]
theorem q6I(id:List Int): ∀(os:List OutR)(i:Int),(j18 id i os).Pairwise (fun a b=>j0W a≠j0W b)
 |[],_=>List.Pairwise.nil
 |o::os,i=>by
  refine List.pairwise_cons.2 ⟨fun x hx e=>?_,q6I id os (i+1)⟩
  have h1:=(j4h hx).2.1
  have h2:x.i=i:=(congrArg InR.i e).symm
  omega
theorem q3c(id:List Int): ∀(os:List OutR)(i:Int),j5Y (j18 id i os)=(os.map (·.v)).sum
 |[],_=>rfl
 |o::os,i=>by unfold j18;rw[j7N,q3c id os,List.map_cons,List.sum_cons]
theorem q3i{l:List CoinR}{x:InR}{c:CoinR}(h:l.find? (fun c=>decide (j0W c=x))=some c):c∈l∧j0W c=x:=⟨List.mem_of_find?_eq_some h,by have:=List.find?_some h;simpa using this⟩
theorem q4d{l:List CoinR}{x:InR}{c:CoinR}(h:l.find? (fun c=>decide (j0W c=x))=some c):l.Perm (c::l.eraseP fun c=>decide (j0W c=x)):=by
 induction l with
 |nil=>cases h
 |cons d r ih=>
  by_cases e:j0W d=x
  · rw[List.find?_cons_of_pos (by simpa using e)]at h
    cases h
    rw[List.eraseP_cons_of_pos (by simpa using e)]
  · rw[List.find?_cons_of_neg (by simpa using e)]at h
    rw[List.eraseP_cons_of_neg (by simpa using e)]
    exact(List.Perm.cons d (ih h)).trans (List.Perm.swap c d _)
theorem j4B: ∀(xs:List InR)(l:List CoinR)(r:List CoinR × Int),j1Z l xs=some r→r.1.Sublist l∧j5Y r.1+r.2=j5Y l∧r.1.length+xs.length=l.length∧(∀d∈l,j0W d∉ xs→d∈r.1)∧((∀d∈l,0≤d.v)→0≤r.2)
 |[],l,r,h=>by
  cases h
  exact⟨List.Sublist.refl _,by simp,by simp,fun d hd _=>hd,fun _=>Int.le_refl _⟩
 | x::xs,l,r,h=>by
  unfold j1Z at h
  cases hf:l.find? (fun c=>decide (j0W c=x))with
  |none=>rw[hf]at h;cases h
  | some c=>
   rw[hf]at h
   simp only at h
   cases ht:j1Z (l.eraseP fun c=>decide (j0W c=x)) xs with
   |none=>rw[ht]at h;cases h
   |some q=>
    rw[ht]at h
    cases h
    obtain⟨h1,h2,h3,h4,h5⟩:=j4B xs _ _ ht
    have hp:=q4d hf
    have hs:=q0e hp
    rw[j7N]at hs
    have hl:=hp.length_eq
    rw[List.length_cons]at hl
    refine⟨h1.trans List.eraseP_sublist,by simp only;omega,by rw[List.length_cons];simp only;omega,fun d hd hn=>?_,fun hv=>?_⟩
    · rcases List.mem_cons.1 (hp.mem_iff.1 hd)with rfl|hd
      · exact absurd (by rw[(q3i hf).2];exact List.mem_cons_self ..) hn
      · exact h4 d hd (fun h=>hn (mT h))
    · have a:=hv c (q3i hf).1
      have b:=h5 (fun d hd=>hv d (List.eraseP_sublist.subset hd))
      simp only
      omega
def coC(c:CoinR):List Value:=inC (j0W c)++j6Q (j9h c)
def coA(c:CoinR):Array Value:=(coC c).toArray
def coV(c:CoinR):Value:= .agg (coA c)
def j1w:CoinR:=⟨[],0,0,0⟩
def j4I(c:CoinR):Prop:=c.tx.length=32
theorem okCoin.len{c:CoinR}(h:okCoin c):j4I c:=h.1.1
theorem j7H{c:CoinR}(h:j4I c):(coC c).length=35:=by
 unfold coC
 rw[lA,j2u (show j3e (j0W c)from h)]
 rfl
theorem j9r(c:CoinR): ∀u∈coC c,u.oneCell'=true:=by
 intro u hu
 unfold coC at hu
 rcases List.mem_append.1 hu with h|h
 · exact q1H _ u h
 · exact j9H _ u h
theorem aggCo:AggT 137 35:=⟨fun w=>by simp[isAgg,run_underlying underlying137],by kernel_rfl⟩
theorem elCo:ElemT 39 137 35 56 (coV j1w):=⟨underlying39,by kernel_rfl,by decide+kernel,by decide,by decide,by decide⟩
theorem q6C{c:CoinR}(h:j4I c):(coC c).take 33=inC (j0W c):=by unfold coC;rw[List.take_left' (j2u (show j3e (j0W c)from h))]
theorem x3X{c:CoinR}(h:j4I c):(coC c).take 32=(j0d 32 c.tx).toList:=by
 have e:=q6C h
 have e2:(coC c).take 32=((coC c).take 33).take 32:=by rw[List.take_take];rfl
 rw[e2,e]
 unfold inC
 exact List.take_left' (j0g (show (j0W c).tx.length=32 from h))
theorem x3J{c:CoinR}(h:j4I c):(coC c)[32]?=some (.int .i64 c.i):=by
 unfold coC
 rw[List.getElem?_append_left (by rw[j2u (show j3e (j0W c)from h)];omega)]
 exact q5I (show j3e (j0W c)from h)
theorem x3S{c:CoinR}(h:j4I c):(coC c)[33]?=some (.int .i64 c.v):=by
 unfold coC
 rw[List.getElem?_append_right (by rw[j2u (show j3e (j0W c)from h)];omega),j2u (show j3e (j0W c)from h)]
 rfl
theorem x1l{c:CoinR}(h:j4I c):(coC c)[34]?=some (.int .i64 c.tw):=by
 unfold coC
 rw[List.getElem?_append_right (by rw[j2u (show j3e (j0W c)from h)];omega),j2u (show j3e (j0W c)from h)]
 rfl
theorem q6k{c:CoinR}(h:j4I c):((coC c).drop 33).take 2=j6Q (j9h c):=by
 unfold coC
 rw[List.drop_left' (j2u (show j3e (j0W c)from h))]
 rfl
section
variable {w0 u:World}{M:j0e}{g:Nat}{ty:TypeId}{c:CoinR}
theorem x05(hu:EnvC w0 M u)(hm:(g,oc (coA c) ty)∈M)(h:j4I c):(loadVar 3 ⟨g,32,none⟩).run Tryz.prog u= .ok (.int .i64 c.i) u:=
 j0f j1S u (j0n hu hm (by unfold coA;rw[List.getElem?_toArray];exact x3J h))
instance:Cell Tryz.prog (coA c) 3 32 (.int .i64 c.i) (j4I c):=⟨fun hu hm k=>x05 hu hm k⟩
theorem x0y(hu:EnvC w0 M u)(hm:(g,oc (coA c) ty)∈M)(h:j4I c):(loadVar 3 ⟨g,33,none⟩).run Tryz.prog u= .ok (.int .i64 c.v) u:=
 j0f j1S u (j0n hu hm (by unfold coA;rw[List.getElem?_toArray];exact x3S h))
instance:Cell Tryz.prog (coA c) 3 33 (.int .i64 c.v) (j4I c):=⟨fun hu hm k=>x0y hu hm k⟩
theorem q5C(hu:EnvC w0 M u)(hm:(g,oc (coA c) ty)∈M)(h:j4I c):(loadVar 3 ⟨g,34,none⟩).run Tryz.prog u= .ok (.int .i64 c.tw) u:=
 j0f j1S u (j0n hu hm (by unfold coA;rw[List.getElem?_toArray];exact x1l h))
instance:Cell Tryz.prog (coA c) 3 34 (.int .i64 c.tw) (j4I c):=⟨fun hu hm k=>q5C hu hm k⟩
end
theorem q8U{x:InR}{o:OutR}(h:j3e x):Tryz.prog.built 137 [(0,inV x),(1,j6Z o)]=some (coA ⟨x.tx,x.i,o.v,o.tw⟩):=by
 have hs:(inA x).size=33:=j4l h
 have e:j0J [(0,inV x),(1,j6Z o)]=coC ⟨x.tx,x.i,o.v,o.tw⟩:=by simp[j0J,coC,inV,j6Z,inA,j4r,j0W,j9h,Value.cells]
 have:=j2m (t:=137) (n:=35) underlying137 (by kernel_rfl) (places:=[(0,33),(33,2)]) (by kernel_rfl) (ps:=[(0,inV x),(1,j6Z o)]) (by
  refine⟨?_,?_,trivial⟩
  · show some (0,33)=some (0,(inA x).size)
    rw[hs]
  · show some (33,2)=some (0+(inA x).size,2)
    rw[hs]) (by rw[e,j7H (c:=⟨x.tx,x.i,o.v,o.tw⟩) h])
 rw[this,e]
 rfl
def CoinsIn(w:World)(B:Nat)(A:Option Addr)(l:List CoinR):Prop:=CellsIn w B A (l.map coC).flatten
theorem j8t{l:List CoinR}(h: ∀c∈l,j4I c):isRows 35 (l.map coC):=fun x hx=>by
 obtain⟨t,ht,rfl⟩:=List.mem_map.1 hx
 exact j7H (h t ht)
theorem okP.lens{p:List CoinR}(h:okP p): ∀c∈p,j4I c:=fun c hc=>(h c hc).len
theorem x0p{l:List CoinR}(h:okP l){i:Nat}(hi:i<l.length):okCoin (l.getD i j1w):=by
 rw[gD,gE hi]
 exact h _ (List.getElem_mem hi)
theorem okP.take{p:List CoinR}(h:okP p)(k:Nat):okP (p.take k):=fun x hx=>h x (List.mem_of_mem_take hx)
theorem okP.drop{p:List CoinR}(h:okP p)(k:Nat):okP (p.drop k):=fun x hx=>h x (List.mem_of_mem_drop hx)
theorem CoinsIn.loads{w:World}{A:Option Addr}{l:List CoinR}(h:CoinsIn w w.heap.size A l)(hl:okP l){k:Nat}(hk:k<l.length): ∃ad,A=some ad∧ad.block<w.heap.size∧ ∀u,EnvX w u []→
   (loadVar 137 (ad.add (k*35))).run Tryz.prog u= .ok (coV (l.getD k j1w)) u∧
   (loadVar 133 (ad.add (k*35))).run Tryz.prog u= .ok (inV (j0W (l.getD k j1w))) u∧
   (loadVar 26 (ad.add (k*35))).run Tryz.prog u= .ok (idv (l.getD k j1w).tx) u∧
   (loadVar 3 ((ad.add (k*35)).add 32)).run Tryz.prog u= .ok (.int .i64 (l.getD k j1w).i) u∧
   (loadVar 135 ((ad.add (k*35)).add 33)).run Tryz.prog u= .ok (j6Z (j9h (l.getD k j1w))) u∧
   (loadVar 3 ((ad.add (k*35)).add 33)).run Tryz.prog u= .ok (.int .i64 (l.getD k j1w).v) u∧
   (loadVar 3 ((ad.add (k*35)).add 34)).run Tryz.prog u= .ok (.int .i64 (l.getD k j1w).tw) u:=by
 obtain⟨ad,e,hb,hc⟩:=j35 (d:=j1w) h (j8t hl.lens) (by decide) hk
 refine⟨ad,e,hb,fun u hu=>?_⟩
 have h32:=(x0p hl hk).len
 have hcu: ∀j v,(coC (l.getD k j1w))[j]?=some v→u.cell? ((ad.add (k*35)).add j)=some v:=fun j v hv=>by
   rw[←hc j v hv]
   exact(EnvX.bel hu).cell (by rw[j0N,j0N];exact hb)
 generalize l.getD k j1w=t at *
 have cut: ∀(m:Nat) j v,((coC t).take m)[j]?=some v→(coC t)[j]?=some v:=fun m j v hj=>by
   rw[List.getElem?_take]at hj
   split at hj
   · exact hj
   · cases hj
 refine⟨j0F aggCo (coC t) (j7H h32) hcu,?_,?_,j0f j1S u (hcu 32 _ (x3J h32)),?_,j0f j1S u (hcu 33 _ (x3S h32)),j0f j1S u (hcu 34 _ (x1l h32))⟩
 · exact j0F aggIn (inC (j0W t)) (j2u (show j3e (j0W t)from h32)) (fun j v hv=>hcu j v (cut 33 j v (by rw[q6C h32];exact hv)))
 · have:=j0F aggIdT (w:=u) (ad:=ad.add (k*35)) _ (j0g (show t.tx.length=32 from h32)) (fun j v hv=>hcu j v (cut 32 j v (by rw[x3X h32];exact hv)))
   rwa[j2h]at this
 · refine j0F aggOut (j6Q (j9h t)) rfl (fun j v hv=>?_)
   rw[show ((ad.add (k*35)).add 33).add j=(ad.add (k*35)).add (33+j)by simp only[j4Y,Nat.add_assoc]]
   refine hcu (33+j) v ?_
   rw[←q6k h32]at hv
   rw[List.getElem?_take]at hv
   split at hv
   · rw[List.getElem?_drop]at hv
     exact hv
   · cases hv
theorem q9K:(Tryz.prog.fieldsOf 137).toList.map (fun f=>(f.name== "_",f.type,f.offset))=[(false,133,0),(false,135,33)]:=by kernel_rfl
def eqC(a b:CoinR):Bool:=decide (a=b)
theorem j8h(d:Nat)(a b:InR)(ha:j3e a)(hb:j3e b)(w:World):(Op.equalIn (d+4) 133 (inV a) (inV b)).run Tryz.prog w= .ok (eqI a b) w:=by
 unfold inV
 have h:=run_equalIn_struct (P:=Tryz.prog) w (d+3) 133 (inA a) (inA b) (by kernel_rfl) (by kernel_rfl)
 refine Eq.trans h ?_
 have hf:=q3p
 generalize (Tryz.prog.fieldsOf 133).toList=fs at hf ⊢
 have hl:fs.length=2:=by simpa using congrArg List.length hf
 obtain⟨f1,f2,rfl⟩: ∃f1 f2,fs=[f1,f2]:=by
  match fs,hl with
  |[a,b],_=>exact⟨a,b,rfl⟩
 simp only[List.map_cons,List.map_nil,List.cons.injEq,Prod.mk.injEq,beq_eq_false_iff_ne,and_true]at hf
 obtain⟨⟨n1,t1,o1⟩,n2,t2,o2⟩:=hf
 have pT: ∀t:InR,j3e t→(part 26 (inA t) 0).run Tryz.prog w= .ok (.agg (j0d 32 t.tx)) w:=fun t ht=>j0U aggIdT (by have:=j1L (q3J ht);rwa[Array.toArray_toList]at this) w
 have pI: ∀t:InR,j3e t→(part 3 (inA t) 32).run Tryz.prog w= .ok (.int .i64 t.i) w:=fun t ht=>run_part_plain (P:=Tryz.prog) w (by kernel_rfl) (by unfold inA;rw[List.getElem?_toArray];exact q5I ht)
 have e1:=j1e (d+1) a.tx b.tx ha hb w
 have e2:=run_equalIn_int (P:=Tryz.prog) w (d+2) 3 .i64 .i64 a.i b.i underlying3
 have hd:eqI a b=(eqL a.tx b.tx&& (a.i==b.i)):=by
  unfold eqI eqL
  rw[Bool.eq_iff_iff]
  simp only[decide_eq_true_eq,Bool.and_eq_true,beq_iff_eq]
  exact⟨fun h=>by subst h;exact⟨rfl,rfl⟩,fun h=>by cases a;cases b;simp only at h;rw[h.1,h.2]⟩
 rw[hd]
 rw[j0r (a:= .agg (j0d 32 a.tx)) (b:= .agg (j0d 32 b.tx)) n1 (by rw[t1,o1];exact pT a ha) (by rw[t1,o1];exact pT b hb) (by rw[t1];exact e1)]
 cases eqL a.tx b.tx with
 |false=>rfl
 |true=>
  rw[if_pos rfl,j0r (a:= .int .i64 a.i) (b:= .int .i64 b.i) n2 (by rw[t2,o2];exact pI a ha) (by rw[t2,o2];exact pI b hb) (by rw[t2];exact e2)]
  cases hab:(a.i==b.i)with
  |false=>rfl
  |true=>rfl
theorem j7t(d:Nat)(a b:OutR)(w:World):(Op.equalIn (d+4) 135 (j6Z a) (j6Z b)).run Tryz.prog w= .ok (eqO a b) w:=by
 unfold j6Z
 have h:=run_equalIn_struct (P:=Tryz.prog) w (d+3) 135 (j4r a) (j4r b) (by kernel_rfl) (by kernel_rfl)
 refine Eq.trans h ?_
 have hf:=q0q
 generalize (Tryz.prog.fieldsOf 135).toList=fs at hf ⊢
 have hl:fs.length=2:=by simpa using congrArg List.length hf
 obtain⟨f1,f2,rfl⟩: ∃f1 f2,fs=[f1,f2]:=by
  match fs,hl with
  |[a,b],_=>exact⟨a,b,rfl⟩
 simp only[List.map_cons,List.map_nil,List.cons.injEq,Prod.mk.injEq,beq_eq_false_iff_ne,and_true]at hf
 obtain⟨⟨n1,t1,o1⟩,n2,t2,o2⟩:=hf
 have pV: ∀t:OutR,(part 3 (j4r t) 0).run Tryz.prog w= .ok (.int .i64 t.v) w:=fun t=>run_part_plain (P:=Tryz.prog) w (by kernel_rfl) rfl
 have pT: ∀t:OutR,(part 3 (j4r t) 1).run Tryz.prog w= .ok (.int .i64 t.tw) w:=fun t=>run_part_plain (P:=Tryz.prog) w (by kernel_rfl) rfl
 have e1:=run_equalIn_int (P:=Tryz.prog) w (d+2) 3 .i64 .i64 a.v b.v underlying3
 have e2:=run_equalIn_int (P:=Tryz.prog) w (d+2) 3 .i64 .i64 a.tw b.tw underlying3
 have hd:eqO a b=((a.v==b.v) && (a.tw==b.tw)):=by
  unfold eqO
  rw[Bool.eq_iff_iff]
  simp only[decide_eq_true_eq,Bool.and_eq_true,beq_iff_eq]
  exact⟨fun h=>by subst h;exact⟨rfl,rfl⟩,fun h=>by cases a;cases b;simp only at h;rw[h.1,h.2]⟩
 rw[hd]
 rw[j0r (a:= .int .i64 a.v) (b:= .int .i64 b.v) n1 (by rw[t1,o1];exact pV a) (by rw[t1,o1];exact pV b) (by rw[t1];exact e1)]
 cases (a.v==b.v)with
 |false=>rfl
 |true=>
  rw[if_pos rfl,j0r (a:= .int .i64 a.tw) (b:= .int .i64 b.tw) n2 (by rw[t2,o2];exact pT a) (by rw[t2,o2];exact pT b) (by rw[t2];exact e2)]
  cases hab:(a.tw==b.tw)with
  |false=>rfl
  |true=>rfl
theorem q0I(a b:CoinR)(ha:j4I a)(hb:j4I b)(w:World):(Op.equal 137 (coV a) (coV b)).run Tryz.prog w= .ok (eqC a b) w:=by
 unfold Op.equal coV
 have h:=run_equalIn_struct (P:=Tryz.prog) w 9999 137 (coA a) (coA b) (by kernel_rfl) (by kernel_rfl)
 refine Eq.trans h ?_
 have hf:=q9K
 generalize (Tryz.prog.fieldsOf 137).toList=fs at hf ⊢
 have hl:fs.length=2:=by simpa using congrArg List.length hf
 obtain⟨f1,f2,rfl⟩: ∃f1 f2,fs=[f1,f2]:=by
  match fs,hl with
  |[a,b],_=>exact⟨a,b,rfl⟩
 simp only[List.map_cons,List.map_nil,List.cons.injEq,Prod.mk.injEq,beq_eq_false_iff_ne,and_true]at hf
 obtain⟨⟨n1,t1,o1⟩,n2,t2,o2⟩:=hf
 have pI: ∀t:CoinR,j4I t→(part 133 (coA t) 0).run Tryz.prog w= .ok (inV (j0W t)) w:=fun t ht=>j0U aggIn (j1L (a:=coA t) (l:=inC (j0W t)) (by unfold coA;rw[List.drop_zero];exact q6C ht)) w
 have pO: ∀t:CoinR,j4I t→(part 135 (coA t) 33).run Tryz.prog w= .ok (j6Z (j9h t)) w:=fun t ht=>j0U aggOut (j1L (a:=coA t) (l:=j6Q (j9h t)) (by unfold coA;exact q6k ht)) w
 have e1:=j8h 9995 (j0W a) (j0W b) ha hb w
 have e2:=j7t 9995 (j9h a) (j9h b) w
 have hd:eqC a b=(eqI (j0W a) (j0W b) && eqO (j9h a) (j9h b)):=by
  unfold eqC eqI eqO j0W j9h
  rw[Bool.eq_iff_iff]
  simp only[decide_eq_true_eq,Bool.and_eq_true,InR.mk.injEq,OutR.mk.injEq]
  exact⟨fun h=>by subst h;exact⟨⟨rfl,rfl⟩,rfl,rfl⟩,fun h=>by cases a;cases b;simp only at h;rw[h.1.1,h.1.2,h.2.1,h.2.2]⟩
 rw[hd]
 rw[j0r (a:=inV (j0W a)) (b:=inV (j0W b)) n1 (by rw[t1,o1];exact pI a ha) (by rw[t1,o1];exact pI b hb) (by rw[t1];exact e1)]
 cases eqI (j0W a) (j0W b)with
 |false=>rfl
 |true=>
  rw[if_pos rfl,j0r (a:=j6Z (j9h a)) (b:=j6Z (j9h b)) n2 (by rw[t2,o2];exact pO a ha) (by rw[t2,o2];exact pO b hb) (by rw[t2];exact e2)]
  cases hab:eqO (j9h a) (j9h b)with
  |false=>rfl
  |true=>rfl
theorem x3m:Tryz.prog.eqGuardType Tryz.prog.depth 137=false:=by kernel_rfl
section
variable {a:Act}{dst:Option Tmp}{x y:Operand}{ty:TypeId}{pos:String}{after:Array Edge}{gd:Option (Nat × Bool)}
theorem q3m{s t:CoinR}{b:Bool}(hs:j4I s)(ht:j4I t)(hb:(!eqC s t)=b)(u:World)(hx:a.eval x=coV s)(hy:a.eval y=coV t):
  (execOp a.eval ⟨dst, .binOp .neq 137 x y 137,ty,pos,after,gd⟩).run Tryz.prog u= .ok (.value (.bool b)) u:=by
 have h0:=q0I s t hs ht u
 have h:(binOp .neq 137 (coV s) (coV t)).run Tryz.prog u= .ok (.bool (!eqC s t)) u:=by
  unfold coV at *
  simp only[binOp]
  simp[h0]
 have hg:=run_eqGuard_agg (P:=Tryz.prog) u .neq 137 x y (coA s) (coA t) x3m
 rw[←hb]
 unfold coV at *
 unfold execOp
 simp only[hx,hy,Sem.run_bind,hg,Result.andThen_ok,h,Sem.run_pure]
theorem j1Y{k off:Nat}(hk:([(0,0),(1,33)]:List (Nat × Nat)).lookup k=some off){ad:Addr}(u:World)(hx:a.eval x= .pointer (some ad)):
  (execOp a.eval ⟨dst, .fieldAddr 137 x k,ty,pos,after,gd⟩).run Tryz.prog u= .ok (.value (.pointer (some (ad.add off)))) u:=by
 unfold execOp
 simp only[hx]
 rcases k with _|_|k
 all_goals first|(cases hk;go_simp)|cases hk
instance:FldT Tryz.prog 137 [(0,0),(1,33)]:=⟨fun h u k=>j1Y h u k⟩
end
theorem j3z(p:List CoinR)(x:InR):(j4s p x= -1∧ ∀c∈p,j0W c≠x)∨ ∃k,k<p.length∧j4s p x=(k:Int)∧j0W (p.getD k j8v)=x∧ ∀j,j<k→j0W (p.getD j j8v)≠x:=by
 unfold j4s
 cases h:p.findIdx? (fun c=>decide (j0W c=x))with
 |none=>
  refine .inl ⟨rfl,fun c hc e=>?_⟩
  have:=List.findIdx?_eq_none_iff.1 h c hc
  rw[e]at this
  simp at this
 |some k=>
  obtain⟨hk,h1,h2⟩:=List.findIdx?_eq_some_iff_getElem.1 h
  refine .inr ⟨k,hk,rfl,?_,fun j hj e=>?_⟩
  · rw[gD,gE hk]
    simpa using h1
  · have:=h2 j hj
    rw[gD,gE (by omega)]at e
    simp only[Option.getD_some]at e
    rw[e]at this
    simp at this
theorem q4c{p:List CoinR}{x:InR}(h: ∀c∈p,j0W c≠x):j4s p x= -1:=by
 rcases j3z p x with ⟨e,_⟩|⟨k,hk,_,e,_⟩
 · exact e
 · refine absurd e (h _ ?_)
   rw[gD,gE hk]
   exact List.getElem_mem hk
theorem q6A{p:List CoinR}{x:InR}{k:Nat}(hk:k<p.length)(h:j0W (p.getD k j8v)=x)(hn: ∀j,j<k→j0W (p.getD j j8v)≠x):j4s p x=(k:Int):=by
 rcases j3z p x with ⟨_,e⟩|⟨j,hj,e,h1,h2⟩
 · refine absurd h (e _ ?_)
   rw[gD,gE hk]
   exact List.getElem_mem hk
 · rcases Nat.lt_trichotomy j k with g|g|g
   · exact absurd h1 (hn j g)
   · rw[e,g]
   · exact absurd h (h2 k g)
theorem mayP_iff{p:List CoinR}:j3h p=true↔p.length≤48∧(∀c∈p,j1c c=true)∧upP p:=by unfold j3h;rw[decide_eq_true_eq]
theorem q0F{p:List CoinR}{id:List Int}(h:j19 p id=false): ∀c∈p,c.tx≠id:=fun c hc e=>by
 unfold j19 at h
 rw[List.any_eq_false]at h
 exact h c hc (by simpa using e)
theorem x3o{c:CoinR}(h:j1c c=true):1≤c.v:=by
 unfold j1c at h
 rw[decide_eq_true_eq]at h
 exact h.2.2.1
theorem q6Z{t:TxR}(hm:j4z t=true)(id:List Int): ∀c∈j18 id 0 t.outs,j1c c=true:=fun c hc=>by
 obtain⟨_,h1,h2,h3⟩:=j4h hc
 obtain⟨_,_,h4,_,_,h5⟩:=mayX_iff.1 hm
 have h6:=h5 _ h3
 unfold j1c
 unfold j3E j9h at h6
 rw[decide_eq_true_eq]at *
 simp only at h6
 omega
theorem q3M{l:List CoinR}{t:TxR}(hl:idP l)(hu:upP l)(hb: ∀c∈l,j1c c=true)(hm:j4z t=true)(ht:j19 l (idX t)=false)(hlen:(j1y l (j18 (idX t) 0 t.outs)).length≤48):j3h (j1y l (j18 (idX t) 0 t.outs))=true:=by
 refine mayP_iff.2 ⟨hlen,fun c hc=>?_,?_⟩
 · rcases List.mem_append.1 ((j3l _ _).mem_iff.1 hc)with h|h
   · exact q6Z hm _ c h
   · exact hb c h
 · refine q2Q _ _ hl (fun c hc=>?_) hu (fun d hd c hc e=>?_) (q6I _ _ _)
   · rw[(j4h hc).1];exact j8A t
   · exact q0F ht d hd (by rw[←(j4h hc).1];exact congrArg InR.tx e)
theorem q3F(l:List CoinR)(t:TxR):j5Y (j1y l (j18 (idX t) 0 t.outs))=j2F t+j5Y l:=by
 rw[q0e (j3l _ _),q83,q3c]
 rfl
theorem q3H{l:List CoinR}{t:TxR}(hl:idP l):idP (j1y l (j18 (idX t) 0 t.outs)):=fun c hc=>by
 rcases List.mem_append.1 ((j3l _ _).mem_iff.1 hc)with h|h
 · rw[(j4h h).1];exact j8A t
 · exact hl c h
theorem x0a {p:List CoinR} {t:TxR} {q:List CoinR} {n:Int} (hp:idP p) (h:j0x p t=(q,n,0)):j3h p=true∧j4z t=true∧t.ins≠[]∧ ∃l m,j1Z p t.ins=some (l,m)∧j2F t≤m∧j19 l (idX t)=false∧q=j1y l (j18 (idX t) 0 t.outs)∧q.length≤48∧n=m- j2F t:=by
 unfold j0x at h
 split at h
 · rename_i hc
   simp only[Bool.and_eq_true,decide_eq_true_eq]at hc
   refine⟨hc.1.1,hc.1.2,hc.2,?_⟩
   cases ht:j1Z p t.ins with
   |none=>rw[ht]at h;simp at h
   | some r=>
    obtain⟨l,m⟩:=r
    rw[ht]at h
    simp only at h
    split at h
    · simp at h
    · rename_i h1
      split at h
      · simp at h
      · rename_i h2
        split at h
        · simp at h
        · rename_i h3
          simp only[Prod.mk.injEq,and_true]at h
          exact⟨l,m,rfl,by omega,by simpa using h2,h.1.symm,by rw[←h.1];omega,h.2.symm⟩
 · simp at h
theorem q7M {p:List CoinR} {t:TxR} {q:List CoinR} {n:Int} {e:Nat} (h:j0x p t=(q,n,e+1)):q=p∧n=0:=by
 unfold j0x at h
 split at h
 · cases ht:j1Z p t.ins with
   |none=>
    rw[ht]at h
    simp only[Prod.mk.injEq]at h
    exact⟨h.1.symm,h.2.1.symm⟩
   |some r=>
    rw[ht]at h
    simp only at h
    split at h
    · simp only[Prod.mk.injEq]at h;exact⟨h.1.symm,h.2.1.symm⟩
    · split at h
      · simp only[Prod.mk.injEq]at h;exact⟨h.1.symm,h.2.1.symm⟩
      · split at h
        · simp only[Prod.mk.injEq]at h;exact⟨h.1.symm,h.2.1.symm⟩
        · simp at h
 · simp only[Prod.mk.injEq]at h
   exact⟨h.1.symm,h.2.1.symm⟩
theorem q78{p:List CoinR}{t:TxR}{q:List CoinR}{n:Int}(hp:idP p)(h:j0x p t=(q,n,0)):j3h q=true∧idP q∧j5Y q+n=j5Y p∧0≤n:=by
 obtain⟨hm,hx,_,l,m,ht,hw,hth,rfl,hl,rfl⟩:=x0a hp h
 obtain⟨_,hb,hu⟩:=mayP_iff.1 hm
 obtain⟨h1,h2,_,_,_⟩:=j4B _ _ _ ht
 simp only at h1 h2
 have hil:idP l:=fun c hc=>hp c (h1.subset hc)
 refine⟨q3M hil (hu.sublist h1) (fun c hc=>hb c (h1.subset hc)) hx hth hl,q3H hil,?_,by omega⟩
 rw[q3F]
 omega
theorem q8u{p:List CoinR}(hp:idP p)(hm:j3h p=true)(t:TxR):j3h (j0x p t).1=true∧idP (j0x p t).1∧j5Y (j0x p t).1+(j0x p t).2.1=j5Y p∧0≤(j0x p t).2.1:=by
 rcases hs:j0x p t with ⟨q,n,e⟩
 cases e with
 |zero=>exact q78 hp hs
 |succ e=>
  obtain⟨rfl,rfl⟩:=q7M hs
  exact⟨hm,hp,by simp,Int.le_refl _⟩
theorem q2y: ∀(l:List TxR)(p:List CoinR)(n:Int)(q:List CoinR)(m:Int),idP p→j3h p=true→j3U p n l= .ok (q,m)→j3h q=true∧idP q∧j5Y q+m=j5Y p+n∧n≤m
 |[],p,n,q,m,hp,hm,h=>by
  unfold j3U at h
  cases h
  exact⟨hm,hp,rfl,Int.le_refl _⟩
 | t::l,p,n,q,m,hp,hm,h=>by
  unfold j3U at h
  have ha:=q8u hp hm t
  rcases hs:j0x p t with ⟨q1,n1,e⟩
  rw[hs]at h ha
  cases e with
  |zero=>
   simp only at h ha
   obtain⟨a,b,c,d⟩:=q2y l q1 (n+n1) q m ha.2.1 ha.1 h
   exact⟨a,b,by omega,by omega⟩
  |succ e=>simp only at h;cases h
theorem j94{p:List CoinR}(hp:idP p)(hm:j3h p=true)(l:List TxR):j3h (j0t p l).1=true∧idP (j0t p l).1∧j5Y (j0t p l).1≤j5Y p+50∧((j0t p l).2≠0→(j0t p l).1=p):=by
 have base:j3h p=true∧idP p∧j5Y p≤j5Y p+50∧(∀e:Nat,e≠0→p=p):=⟨hm,hp,by omega,fun _ _=>rfl⟩
 unfold j0t
 rw[if_neg (by rw[hm];decide)]
 split
 · exact⟨base.1,base.2.1,base.2.2.1,fun _=>rfl⟩
 · cases hr:j3U p 0 (if j2P l=true then l.tail else l)with
   |error e=>exact⟨base.1,base.2.1,base.2.2.1,fun _=>rfl⟩
   | ok r=>
    obtain⟨q,n⟩:=r
    obtain⟨a,b,c,d⟩:=q2y _ _ _ _ _ hp hm hr
    obtain⟨_,hb,hu⟩:=mayP_iff.1 a
    cases l with
    |nil=>exact⟨a,b,by simp only;omega,fun h=>absurd rfl h⟩
    | cons t l =>
     simp only
     split
     · exact⟨a,b,by simp only;omega,fun h=>absurd rfl h⟩
     · split
       · exact⟨base.1,base.2.1,base.2.2.1,fun _=>rfl⟩
       · rename_i hx
         split
         · exact⟨base.1,base.2.1,base.2.2.1,fun _=>rfl⟩
         · rename_i hth
           split
           · exact⟨base.1,base.2.1,base.2.2.1,fun _=>rfl⟩
           · rename_i hw
             split
             · exact⟨base.1,base.2.1,base.2.2.1,fun _=>rfl⟩
             · rename_i hl
               refine⟨q3M b hu hb (by simpa using hx) (by simpa using hth) (by omega),q3H b,?_,fun h=>absurd rfl h⟩
               simp only
               rw[q3F]
               omega
theorem q9B{p:List CoinR}(hp:idP p)(h: ∀i,i+1<p.length→j0u (j0W (p.getD i j1w)) (j0W (p.getD (i+1) j1w))=true):upP p:=by
 have get: ∀i,(hi:i<p.length)→p.getD i j1w=p[i]:=fun i hi=>by rw[gD,gE hi];rfl
 have step: ∀d i,(hi:i+d+1<p.length)→j0u (j0W (p[i]'(by omega))) (j0W p[i+d+1])=true:=by
  intro d
  induction d with
  |zero=>intro i hi;have:=h i hi;rwa[get i (by omega),get (i+1) hi]at this
  |succ d ih=>
   intro i hi
   have h1:=ih i (by omega)
   have h2:=h (i+d+1) hi
   rw[get (i+d+1) (by omega),get (i+d+1+1) (by omega)]at h2
   exact j31 (hp _ (List.getElem_mem _)) (hp _ (List.getElem_mem _)) (hp _ (List.getElem_mem _)) h1 h2
 refine List.pairwise_iff_getElem.2 fun i j hi hj hij=>?_
 obtain⟨d,rfl⟩: ∃d,j=i+d+1:=⟨j- i- 1,by omega⟩
 exact step d i hj
section
variable {dst:Option Tmp}{ty:TypeId}{pos:String}{after:Array Edge}{gd:Option (Nat × Bool)}
end
theorem j3o{α:Type}{l:List α}{i:Nat}(d:α)(hi:i<l.length):l.take (i+1)=l.take i++[l.getD i d]:=by
 rw[List.take_succ_eq_append_getElem hi,gD,gE hi]
 rfl
theorem q04(id:List Int): ∀(os:List OutR)(i:Int)(o:OutR),j18 id i (os++[o])=j18 id i os++[⟨id,i+os.length,o.v,o.tw⟩]
 |[],i,o=>by simp[j18]
 |x::os,i,o=>by
  have:=q04 id os (i+1) o
  show _::j18 id (i+1) (os++[o])=_::(j18 id (i+1) os++_)
  rw[this]
  congr 3
  simp only[List.length_cons]
  congr 1
  push_cast
  omega
theorem q0x(p cs:List CoinR):(j1y p cs).length=cs.length+p.length:=by rw[(j3l cs p).length_eq,lA]
theorem j9u{id:List Int}{os:List OutR}(hid:j3C id)(ho: ∀o∈os,q0l o)(hl:os.length≤1000):okP (j18 id 0 os):=fun c hc=>by
 obtain⟨h1,h2,h3,h4⟩:=j4h hc
 have h5:=ho _ h4
 refine⟨by rw[h1];exact hid,?_,h5.1,h5.2⟩
 unfold I64
 omega
theorem j84{p cs:List CoinR}(hp:okP p)(hc:okP cs):okP (j1y p cs):=fun c h=>by
 rcases List.mem_append.1 ((j3l cs p).mem_iff.1 h)with h|h
 · exact hc c h
 · exact hp c h
theorem j6r: ∀(xs:List InR)(l:List CoinR)(x:InR),j1Z l (xs++[x])=match j1Z l xs with
  |none=>none
  |some r=>match r.1.find? (fun c=>decide (j0W c=x))with
   |none=>none
   |some c=>some (r.1.eraseP fun c=>decide (j0W c=x),r.2+c.v)
 |[],l,x=>by
  show j1Z l [x]=_
  unfold j1Z j1Z
  simp only
  cases l.find? (fun c=>decide (j0W c=x))with
  |none=>rfl
  |some c=>simp
 | y::xs,l,x=>by
  show j1Z l (y::(xs++[x]))=_
  unfold j1Z
  cases l.find? (fun c=>decide (j0W c=y))with
  |none=>rfl
  | some c=>
   simp only
   rw[j6r xs]
   cases j1Z (l.eraseP fun c=>decide (j0W c=y)) xs with
   |none=>rfl
   |some r=>
    simp only
    cases r.1.find? (fun c=>decide (j0W c=x))with
    |none=>rfl
    |some d=>simp only[Option.some.injEq,Prod.mk.injEq,true_and];omega
theorem q44{l:List CoinR}{xs:List InR}(h:j1Z l xs=none): ∀ys,j1Z l (xs++ys)=none:=by
 intro ys
 induction xs generalizing l with
 |nil=>cases h
 | cons x xs ih=>
  unfold j1Z at h
  show j1Z l (x::(xs++ys))=none
  unfold j1Z
  cases hf:l.find? (fun c=>decide (j0W c=x))with
  |none=>rfl
  |some c=>
   rw[hf]at h
   simp only at h
   cases ht:j1Z (l.eraseP fun c=>decide (j0W c=x)) xs with
   |none=>simp only;rw[ih ht]
   |some r=>rw[ht]at h;cases h
theorem j8J{l:List CoinR}{x:InR}{k:Nat}(d:CoinR)(h:j4s l x=(k:Int)):k<l.length∧l.find? (fun c=>decide (j0W c=x))=some (l.getD k d)∧(l.eraseP fun c=>decide (j0W c=x))=l.take k++l.drop (k+1):=by
 rcases j3z l x with ⟨e,_⟩|⟨j,hj,e,h1,h2⟩
 · omega
 · obtain rfl:j=k:=by omega
   clear e h
   have hd:l.getD j d=l.getD j j8v:=by rw[gD,gE hj,gD,gE hj];rfl
   rw[hd]
   refine⟨hj,?_⟩
   induction l generalizing j with
   |nil=>cases hj
   | cons c l ih=>
    cases j with
    |zero=>
     have hc:j0W c=x:=h1
     exact⟨by rw[List.find?_cons_of_pos (by simpa using hc)];rfl,by rw[List.eraseP_cons_of_pos (by simpa using hc)];rfl⟩
    |succ j=>
     have hc:j0W c≠x:=h2 0 (by omega)
     have h3:=ih j (by simpa using hj) h1 (fun i hi=>h2 (i+1) (by omega)) (by rw[gD,gE (show j<l.length by simpa using hj),gD,gE (show j<l.length by simpa using hj)];rfl)
     refine⟨by rw[List.find?_cons_of_neg (by simpa using hc)];exact h3.1,by rw[List.eraseP_cons_of_neg (by simpa using hc),h3.2];rfl⟩
theorem q0r{l:List CoinR}{x:InR}(h:j4s l x= -1):l.find? (fun c=>decide (j0W c=x))=none:=by
 rcases j3z l x with ⟨_,e⟩|⟨j,_,e,_⟩
 · exact List.find?_eq_none.2 fun c hc=>by simpa using e c hc
 · omega
theorem q4e{p:List CoinR}{xs:List InR}{i:Nat}(dx:InR)(d:CoinR)(hi:i<xs.length){l:List CoinR}{n:Int}(h:j1Z p (xs.take i)=some (l,n)){k:Nat}(hk:j4s l (xs.getD i dx)=(k:Int)):
  j1Z p (xs.take (i+1))=some (l.take k++l.drop (k+1),n+(l.getD k d).v):=by
 obtain⟨_,h1,h2⟩:=j8J d hk
 rw[j3o dx hi,j6r,h]
 simp only
 rw[h1,h2]
theorem q4X{p:List CoinR}{xs:List InR}{i:Nat}(dx:InR)(hi:i<xs.length){l:List CoinR}{n:Int}(h:j1Z p (xs.take i)=some (l,n))(hk:j4s l (xs.getD i dx)= -1):j1Z p xs=none:=by
 have h1:j1Z p (xs.take (i+1))=none:=by
  rw[j3o dx hi,j6r,h]
  simp only
  rw[q0r hk]
 have:=q44 h1 (xs.drop (i+1))
 rwa[List.take_append_drop]at this
theorem j97(p:List CoinR)(n:Int)(t:TxR)(l:List TxR):j3U p n (t::l)=match j0x p t with
 |(q,m,0)=>j3U q (n+m) l
 |(_,_,e+1)=> .error (e+1):=rfl
theorem j9s: ∀(xs:List TxR)(p:List CoinR)(n:Int)(ys:List TxR),j3U p n (xs++ys)=match j3U p n xs with
  | .error e=> .error e
  | .ok (q,m)=>j3U q m ys
 |[],p,n,ys=>rfl
 |t::xs,p,n,ys=>by
  show j3U p n (t::(xs++ys))=_
  rw[j97,j97]
  rcases hs:j0x p t with ⟨q,m,e⟩
  cases e with
  |zero=>simp only;exact j9s xs q (n+m) ys
  |succ e=>rfl
theorem q77{p:List CoinR}{i:Nat}(h:i<p.length):p.getD i j1w=p.getD i j8v:=by rw[gD,gE h,gD,gE h];rfl
theorem q5b{p:List CoinR}{x:InR}{k:Nat}(hk:k<p.length)(h:j0W (p.getD k j1w)=x)(hn: ∀j,j<k→j0W (p.getD j j1w)≠x):j4s p x=(k:Int):=
 q6A hk (by rw[←q77 hk];exact h) (fun j hj=>by rw[←q77 (by omega)];exact hn j hj)
theorem q12{p:List CoinR}{x:InR}(h: ∀j,j<p.length→j0W (p.getD j j1w)≠x):j4s p x= -1:=q4c fun c hc=>by
 obtain⟨j,hj,rfl⟩:=List.getElem_of_mem hc
 have:=h j hj
 rwa[gD,gE hj]at this
theorem q46{p:List CoinR}{id:List Int}{k:Nat}(hk:k<p.length)(h:(p.getD k j1w).tx=id):j19 p id=true:=by
 unfold j19
 rw[List.any_eq_true]
 exact⟨p.getD k j1w,by rw[gD,gE hk];exact List.getElem_mem hk,by simpa using h⟩
theorem q9a{c:CoinR}(h:j1c c=true):1≤c.v∧c.v≤1099511627776:=by
 unfold j1c at h
 rw[decide_eq_true_eq]at h
 exact⟨h.2.2.1,h.2.2.2.1⟩
theorem j34: ∀{p:List CoinR},(∀c∈p,j1c c=true)→0≤j5Y p∧j5Y p≤1099511627776*p.length
 |[],_=>by simp[j5Y]
 |c::p,h=>by
  have h1:=j34 (p:=p) (fun d hd=>h d (mT hd))
  have h2:=q9a (h c (List.mem_cons_self ..))
  rw[j7N,List.length_cons]
  push_cast
  omega
def j3B(l:List OutR):Int:=(l.map (·.v)).sum
theorem q2D{l:List OutR}{i:Nat}(d:OutR)(hi:i<l.length):j3B (l.take (i+1))=j3B (l.take i)+(l.getD i d).v:=by
 rw[j3o d hi]
 unfold j3B
 rw[List.map_append,List.sum_append]
 simp
theorem j8E{o:OutR}(h:j3E o=true):1≤o.v∧o.v≤1099511627776:=by
 unfold j3E at h
 rw[decide_eq_true_eq]at h
 exact⟨h.1,h.2.1⟩
theorem j4v: ∀{l:List OutR},(∀o∈l,j3E o=true)→0≤j3B l∧j3B l≤1099511627776*l.length
 |[],_=>by simp[j3B]
 |c::p,h=>by
  have h1:=j4v (l:=p) (fun d hd=>h d (mT hd))
  have h2:=j8E (h c (List.mem_cons_self ..))
  have e:j3B (c::p)=c.v+j3B p:=by unfold j3B;rw[List.map_cons,List.sum_cons]
  rw[e,List.length_cons]
  push_cast
  omega
theorem j2q{w0 u:World}{M:j0e}{g:Nat}{ty:TypeId}{ys:List Int}(hu:EnvC w0 M u)(hm:(g,oc (j0d 32 ys) ty)∈M)(h:ys.length=32):(loadVar 26 ⟨g,0,none⟩).run Tryz.prog u= .ok (idv ys) u:=by
 have:=j2s aggIdT (k:=0) hu hm _ (j0g h) (by rw[List.drop_zero,tL (by rw[j0g h];exact Nat.le_refl _)])
 rwa[Array.toArray_toList]at this
theorem q4h (p q:List CoinR) (A A':Option Addr) (n c m c':Nat) (w:World) (hl:p.length=n) (hnc:n≤c) (hcm:c≤maxLen) (hI:okP p) (hA:CoinsIn w w.heap.size A p) (hl':q.length=m) (hnc':m≤c') (hcm':c'≤maxLen) (hI':okP q) (hA':CoinsIn w w.heap.size A' q):
  Rz 49 #[.slice A n c, .slice A' m c'] w (.bool (j6E p q)):=by
 unfold Rz
 have HL:=hD hl
 have HPP:=hD hI
 have HAA:=hD hA
 have HN63:Hid (n<9223372036854775808):=by show _<_;unfold maxLen at hcm;omega
 have HL':=hD hl'
 have HPP':=hD hI'
 have HAA':=hD hA'
 have HM63:Hid (m<9223372036854775808):=by show _<_;unfold maxLen at hcm';omega
 have E1:Hid (EnvX w w []):=EnvX.start w
 clear hl hnc hcm hI hA hl' hnc' hcm' hI' hA'
 by_cases d4:n=m
 case neg=>
  have D4:Hid (decide ((n:Int)≠(m:Int))=true):=decide_eq_true (by omega)
  have HF:Hid (j6E p q=false):=decide_eq_false fun e=>d4 (by rw[←HL.out,←HL'.out,e])
  clear d4
  go_enter func49,ntmps49
  go_upto_region 1 with (fail)
  refine rgQ [0,1,2,3,4] [] E1 rfl fun hw=>?_
  refine qo rfl hw ?_
  refine qv rfl (fun u hu=>j0l underlying39 HN63.out u rfl) hw ?_
  refine qo rfl hw ?_
  refine qv rfl (fun u hu=>j0l underlying39 HM63.out u rfl) hw ?_
  refine qv rfl (fun u hu=>j36 u D4.out rfl rfl) hw ?_
  refine enP fun u3 EX2=>?_
  have HBE:=hD (EnvX.bel EX2.out)
  go_wp2
  go_ret
  exact⟨by rw[HF.out];first|done|rfl,HBE.out⟩
 have D4:Hid (decide ((n:Int)≠(m:Int))=false):=decide_eq_false (by omega)
 subst d4
 go_enter func49,ntmps49
 go_upto_region 1 with (fail)
 refine rgQ [0,1,2,3,4] [] E1 rfl fun hw=>?_
 refine qo rfl hw ?_
 refine qv rfl (fun u hu=>j0l underlying39 HN63.out u rfl) hw ?_
 refine qo rfl hw ?_
 refine qv rfl (fun u hu=>j0l underlying39 HM63.out u rfl) hw ?_
 refine qv rfl (fun u hu=>j36 u D4.out rfl rfl) hw ?_
 refine enP fun u3 EX2=>?_
 have EJ:=hD EX2.out
 clear EX2 E1
 go_upto_region 4 with (fail)
 go_loopw [5] (fun iv u=> ∃i:Nat,i≤n∧iv= .int .i64 (i:Int)∧Hid ((∀j,j<i→p.getD j j1w=q.getD j j1w)∧EnvX w u [])) (fun iv _=>n- (intOf iv).toNat)
 case atStart=>exact⟨0,by omega,rfl,(fun j hj=>by omega),EJ.out⟩
 case round=>
  obtain⟨i,hi,rfl,hinv⟩:=hrel
  have H1:=hD hinv.out.1
  have EK:=hD hinv.out.2
  clear hinv EJ
  by_cases hlt:i<n
  · have C4:Hid (decide ((i:Int)<(n:Int))=true):=decide_eq_true (by omega)
    have HI:=hD hlt
    have hil:i<p.length:=by rw[HL.out];exact hlt
    have HIL:=hD hil
    obtain⟨ad,rfl,-,hld⟩:=HAA.out.loads HPP.out hil
    have HLD:=hD hld
    have HY:Hid (j4I (p.getD i j1w)):=(x0p HPP.out hil).len
    obtain⟨y,hy⟩: ∃y,p.getD i j1w=y:=⟨_,rfl⟩
    have HYE:=hD hy
    rw[hy]at HLD HY
    have hil2:i<q.length:=by rw[HL'.out];exact hlt
    obtain⟨ad2,rfl,-,hld2⟩:=HAA'.out.loads HPP'.out hil2
    have HLD2:=hD hld2
    have HZ:Hid (j4I (q.getD i j1w)):=(x0p HPP'.out hil2).len
    obtain⟨z,hz⟩: ∃z,q.getD i j1w=z:=⟨_,rfl⟩
    have HZE:=hD hz
    rw[hz]at HLD2 HZ
    obtain⟨b,hb⟩: ∃b,(!eqC y z)=b:=⟨_,rfl⟩
    have HEQ:=hD hb
    clear hld hil hlt hy hb hil2 hld2 hz
    go_upto_region 4 with (fail)
    refine rgQ [0,1,2,3] [] EK rfl fun hw=>?_
    refine qw 2 hw ?_
    refine qv rfl (fun u hu=>j0l underlying39 HN63.out u rfl) hw ?_
    refine qv rfl (fun u hu=>j0o u C4.out rfl rfl) hw ?_
    refine enP fun u43 EX42=>?_
    cases b with
    | true=>
     have HF:Hid (j6E p q=false):=decide_eq_false fun e=>by
      have h1:=HEQ.out
      rw[←HYE.out,←HZE.out,e]at h1
      unfold eqC at h1
      simp at h1
     go_upto_region 6 with (fail)
     refine rgK [0,1,2,3,4,5,6,7,8] 0 EX42 rfl fun hw=>?_
     refine qw 2 hw ?_
     refine qv rfl (fun u hu=>j0h underlying39 aggCo.size HI.out u rfl rfl) hw ?_
     refine qv rfl (fun u hu=>j0a u (HLD.out u (nl hu)).1 rfl) hw ?_
     refine qw 2 hw ?_
     refine qv rfl (fun u hu=>j0h underlying39 aggCo.size HI.out u rfl rfl) hw ?_
     refine qv rfl (fun u hu=>j0a u (HLD2.out u (nl hu)).1 rfl) hw ?_
     refine qv rfl (fun u hu=>q3m HY.out HZ.out HEQ.out u rfl rfl) hw ?_
     refine eH fun u46 EX45=>?_
     have HBE:=hD (EnvX.bel EX45.out)
     go_wp2
     go_ret
     exact⟨by rw[HF.out];first|done|rfl,HBE.out⟩
    | false=>
     have H3:Hid (∀j,j<i+1→p.getD j j1w=q.getD j j1w):=fun j hj=>by
      rcases Nat.lt_or_ge j i with h|h
      · exact H1.out j h
      · rw[show j=i by omega,HYE.out,HZE.out]
        have h1:=HEQ.out
        unfold eqC at h1
        simpa using h1
     go_upto_region 6 with (fail)
     refine rgK [0,1,2,3,4,5,6,7,8] 0 EX42 rfl fun hw=>?_
     refine qw 2 hw ?_
     refine qv rfl (fun u hu=>j0h underlying39 aggCo.size HI.out u rfl rfl) hw ?_
     refine qv rfl (fun u hu=>j0a u (HLD.out u (nl hu)).1 rfl) hw ?_
     refine qw 2 hw ?_
     refine qv rfl (fun u hu=>j0h underlying39 aggCo.size HI.out u rfl rfl) hw ?_
     refine qv rfl (fun u hu=>j0a u (HLD2.out u (nl hu)).1 rfl) hw ?_
     refine qv rfl (fun u hu=>q3m HY.out HZ.out HEQ.out u rfl rfl) hw ?_
     refine eH fun u46 EX45=>?_
     have hii:=HI.out
     have hn:=HN63.out
     go_wp2
     go_roundw
     case rel=>exact⟨i+1,by omega,by go_num,H3.out,EX45.out⟩
     case measure=>simp[intOf];omega
  · obtain rfl:i=n:=by omega
    have C4:Hid (decide ((i:Int)<(i:Int))=false):=decide_eq_false (by omega)
    have HF:Hid (j6E p q=true):=decide_eq_true (j8Y (by rw[HL.out,HL'.out]) (by rw[HL.out];exact H1.out))
    go_upto_region 4 with (fail)
    refine rgQ [0,1,2,3] [] EK rfl fun hw=>?_
    refine qw 2 hw ?_
    refine qv rfl (fun u hu=>j0l underlying39 HN63.out u rfl) hw ?_
    refine qv rfl (fun u hu=>j0o u C4.out rfl rfl) hw ?_
    refine enP fun u203 EX202=>?_
    have HBE:=hD (EnvX.bel EX202.out)
    go_wp2
    go_ret
    exact⟨by rw[HF.out];first|done|rfl,HBE.out⟩
def x3q(w:World)(v:Value)(q:List CoinR):Prop:= ∃A c,v= .slice A q.length c∧q.length≤c∧c≤maxLen∧CoinsIn w w.heap.size A q
section
variable {P:Program}{Γ:HP}{md:Region.Mode}{w0:World}
def x4r(md:Region.Mode)(ops:Array Oper):List Nat→Array Bool→Bool
  |[],_=>true
  |i::rest,listed=>(Region.ready md ops listed).contains i&& x0z md ops listed i true&& x4r md ops rest (listed.setIfInBounds i true)
theorem j4G{Q:Act→j0e→Prop}{l:List Oper}(hs:Region.noSelect l.toArray=true){L:j0e}: ∀(ord:List Nat)(f:Nat)(listed:Array Bool)(a:Act),j3N md l.toArray listed→
  x4r md l.toArray ord listed=true→j4C P l (EnvC w0 []) (fun a'=>j1s (Γ:=Γ) P md l.toArray w0 Q f (j2g ord listed) a' L) ord a→j1s (Γ:=Γ) P md l.toArray w0 Q (ord.length+f) listed a L
 |[],f,listed,a,_,_,h=>by simpa [j4C,j2g] using h
 | i ::ord,f,listed,a,hcl,hB,h=>by
  simp only[x4r,Bool.and_eq_true]at hB
  obtain⟨⟨hr,hf⟩,hB'⟩:=hB
  have hr':i∈Region.ready md l.toArray listed:=by simpa using hr
  unfold j4C at h
  cases hl:l[i]? with
  |none=>simp only[hl]at h
  |some o=>
   simp only[hl]at h
   have ho:l.toArray[i]?=some o:=by simpa using hl
   have hlen:(i::ord).length+f=(ord.length+f)+1:=by simp only[List.length_cons];omega
   rw[hlen]
   have hfr:=j4X ho hf
   by_cases hw:Region.wanted o (yielded l.toArray a.tmps)=true
   · simp only[hw,if_true]at h
     obtain⟨v,hv,hK⟩:=h
     exact j30 (M0:=[]) ho (Region.noSelect_spec hs) _ listed a L hcl (fun _ h=>by cases h) (fun j oj h1 h2 h3=>(hfr j oj h1 h2 h3).imp id (fun k=>⟨k.1, .inl rfl⟩)) hr' (.inl ⟨hw,hv⟩)
      (j4G hs ord f _ _ (j17 hcl hr') hB' hK)
   · simp only[hw,Bool.false_eq_true,if_false]at h
     have hw':Region.wanted o (yielded l.toArray a.tmps)=false:=by simpa using hw
     exact j30 (M0:=[]) ho (Region.noSelect_spec hs) _ listed a L hcl (fun _ h=>by cases h) (fun j oj h1 h2 h3=>(hfr j oj h1 h2 h3).imp id (fun k=>⟨k.1, .inl rfl⟩)) hr' (.inr ⟨hw',rfl⟩)
      (j4G hs ord f _ _ (j17 hcl hr') hB' h)
theorem j0P{Q:Act→j0e→Prop}{l:List Oper}{F:Nat}(ord:List Nat)(f:Nat){L:j0e}{listed:Array Bool}{a:Act}(hF:F=ord.length+f)
  (hB:(Region.noSelect l.toArray&& j4F md l.toArray listed&& x4r md l.toArray ord listed)=true)
  (h:wpG P l (EnvC w0 []) (fun a'=>j1s (Γ:=Γ) P md l.toArray w0 Q f (j2g ord listed) a' L) ord a):j1s (Γ:=Γ) P md l.toArray w0 Q F listed a L:=by
 subst hF
 simp only[Bool.and_eq_true]at hB
 exact j4G hB.1.1 ord f listed a (j8m hB.1.2) hB.2 h.out
end
theorem EnvX.comb{w w5 u:World}{M N:j0e}(h:EnvX w w5 M)(k:EnvX w5 u N):EnvX w u (N++M):=by
 have h1:=h.below k.bel
 refine⟨h1.bel,fun g o hm=>?_⟩
 rcases List.mem_append.1 hm with e|e
 · exact k.box g o e
 · exact h1.box g o e
theorem j7Y(l:List CoinR)(k:Nat):(l.map coC).flatten=((l.take k).map coC).flatten++((l.drop k).map coC).flatten:=by rw[←List.flatten_append,←List.map_append,List.take_append_drop]
theorem CoinsIn.first{w:World}{B:Nat}{A:Option Addr}{l:List CoinR}(h:CoinsIn w B A l)(k:Nat):CoinsIn w B A (l.take k):=by
 unfold CoinsIn at *
 intro hp
 have e:=j7Y l k
 obtain⟨ad,e1,hb,hc⟩:=h (by rw[e,lA];omega)
 refine⟨ad,e1,hb,fun j v hj=>hc j v ?_⟩
 rw[e,List.getElem?_append_left]
 · exact hj
 · rcases Nat.lt_or_ge j ((l.take k).map coC).flatten.length with h'|h'
   · exact h'
   · rw[gN h']at hj;cases hj
theorem CoinsIn.rest{w:World}{B:Nat}{A:Option Addr}{l:List CoinR}(h:CoinsIn w B A l)(hl: ∀c∈l,j4I c){k c:Nat}(hk:k≤l.length)(hc:l.length≤c):CellsIn w B (j5d 35 A k c) ((l.drop k).map coC).flatten:=by
 have e:=j7Y l k
 have hlen:((l.take k).map coC).flatten.length=k*35:=by
  rw[(j8t (fun x hx=>hl x (List.mem_of_mem_take hx))).flat_len,lM,List.length_take,Nat.min_eq_left hk]
 have hd:((l.drop k).map coC).flatten=(l.map coC).flatten.drop (k*35):=by rw[e,List.drop_left' hlen]
 rw[hd]
 refine CellsIn.drop h 35 k c ?_
 rcases Nat.lt_or_ge k c with h'|h'
 · exact .inl h'
 · refine .inr ?_
   rw[(j8t hl).flat_len,lM]
   have:l.length=k:=by omega
   rw[this]
   exact Nat.le_refl _
theorem j3Y{l:List CoinR}(hl: ∀c∈l,j4I c):(l.map coC).flatten.length=l.length*35:=by rw[(j8t hl).flat_len,lM]
theorem j7g(l:List CoinR): ∀u∈(l.map coC).flatten,u.oneCell'=true:=fun u hu=>by
 obtain⟨r,hr,h⟩:=List.mem_flatten.1 hu
 obtain⟨c,_,rfl⟩:=List.mem_map.1 hr
 exact j9r c u h
theorem j5n{p:List CoinR}(hm:j3h p=true)(hp:okP p){xs:List InR}{l:List CoinR}{m:Int}(h:j1Z p xs=some (l,m)):okP l∧l.length≤48∧0≤m∧m≤52776558133248∧(∀c∈l,j1c c=true):=by
 obtain⟨h1,h2,h3,_,h5⟩:=j4B _ _ _ h
 simp only at h1 h2 h3 h5
 obtain⟨k1,k2,_⟩:=mayP_iff.1 hm
 have hb: ∀c∈l,j1c c=true:=fun c hc=>k2 c (h1.subset hc)
 have b1:=j34 hb
 have b2:=j34 k2
 have hl:=h1.length_le
 refine⟨fun c hc=>hp c (h1.subset hc),by omega,h5 (fun d hd=>by have:=x3o (k2 d hd);omega),by omega,hb⟩
theorem q4W{p:List CoinR}{t:TxR}(h:j3h p=false):j0x p t=(p,0,1):=by unfold j0x;rw[h];rfl
theorem q4G{p:List CoinR}{t:TxR}(h:j4z t=false):j0x p t=(p,0,1):=by unfold j0x;rw[h,Bool.and_false];rfl
theorem q35{p:List CoinR}{t:TxR}(h:t.ins=[]):j0x p t=(p,0,1):=by
 unfold j0x
 rw[if_neg (by rw[h];simp)]
theorem q4U{p:List CoinR}{t:TxR}(h1:j3h p=true)(h2:j4z t=true)(h3:t.ins≠[])(h:j1Z p t.ins=none):j0x p t=(p,0,8):=by
 unfold j0x
 rw[h1,h2,if_pos (by simpa using h3),h]
theorem q4w{p:List CoinR}{t:TxR}(h1:j3h p=true)(h2:j4z t=true)(h3:t.ins≠[]){l:List CoinR}{m:Int}(h:j1Z p t.ins=some (l,m)):j0x p t=if m<j2F t then (p,0,8)else if j19 l (idX t)then (p,0,10)else if 48<(j1y l (j18 (idX t) 0 t.outs)).length then (p,0,11)else (j1y l (j18 (idX t) 0 t.outs),m- j2F t,0):=by
 unfold j0x
 rw[h1,h2,if_pos (by simpa using h3),h]
theorem x1j{q:List CoinR}(h1:idP q)(h2: ∀c∈q,j1c c=true):okP q:=fun c hc=>by
 have h:=h2 c hc
 unfold j1c at h
 rw[decide_eq_true_eq]at h
 refine⟨h1 c hc,?_,?_,?_⟩<;>(unfold I64;omega)
theorem j3m{p:List CoinR}(hm:j3h p=true)(hp:okP p){l:List TxR}{q:List CoinR}{m:Int}(h:j3U p 0 l= .ok (q,m)):okP q∧q.length≤48∧0≤m∧m≤52776558133248∧j3h q=true:=by
 obtain⟨a,b,c,d⟩:=q2y _ _ _ _ _ hp.id hm h
 obtain⟨k1,k2,_⟩:=mayP_iff.1 a
 have b1:=j34 k2
 have b2:=j34 (mayP_iff.1 hm).2.1
 have b3:=(mayP_iff.1 hm).1
 exact⟨x1j b k2,k1,d,by omega,a⟩
theorem q0o{p:List CoinR}{l:List TxR}(h:j3h p=false):j0t p l=(p,1):=by unfold j0t;rw[if_pos h]
theorem q5r{p:List CoinR}{l:List TxR}(h:j3h p=true)(h2:4<l.length):j0t p l=(p,3):=by unfold j0t;rw[if_neg (by rw[h];decide),if_pos h2]
theorem j7D{p:List CoinR}{l:List TxR}(h:j3h p=true)(h2: ¬4<l.length){e:Nat}(hr:j3U p 0 (if j2P l then l.tail else l)= .error e):j0t p l=(p,e):=by
 unfold j0t
 rw[if_neg (by rw[h];decide),if_neg h2]
 have hr':j3U p 0 (if j2P l=true then l.tail else l)= .error e:=hr
 rw[hr']
theorem q0v{p:List CoinR}{l:List TxR}(h:j3h p=true)(h2: ¬4<l.length){q:List CoinR}{m:Int}(hr:j3U p 0 (if j2P l then l.tail else l)= .ok (q,m))(hl:j2P l=false):j0t p l=(q,0):=by
 unfold j0t
 rw[if_neg (by rw[h];decide),if_neg h2]
 have hr':j3U p 0 (if j2P l=true then l.tail else l)= .ok (q,m):=hr
 rw[hr']
 cases l with
 |nil=>rfl
 |cons t l=>
  simp only
  rw[if_pos (by unfold j2P at hl;simpa using hl)]
theorem q47{p:List CoinR}{l:List TxR}(h:j3h p=true)(h2: ¬4<l.length){q:List CoinR}{m:Int}(hr:j3U p 0 (if j2P l then l.tail else l)= .ok (q,m))(hl:j2P l=true)(d:TxR):j0t p l=
  if j4z (l.getD 0 d)=false then (p,1)else if j19 q (idX (l.getD 0 d))then (p,10)else if 50+m<j2F (l.getD 0 d)then (p,8)else if 48<(j1y q (j18 (idX (l.getD 0 d)) 0 (l.getD 0 d).outs)).length then (p,11)else (j1y q (j18 (idX (l.getD 0 d)) 0 (l.getD 0 d).outs),0):=by
 unfold j0t
 rw[if_neg (by rw[h];decide),if_neg h2]
 have hr':j3U p 0 (if j2P l=true then l.tail else l)= .ok (q,m):=hr
 rw[hr']
 cases l with
 |nil=>cases hl
 |cons t l=>
  simp only
  rw[if_neg (by unfold j2P at hl;simpa using hl)]
  rfl
theorem q3Q{l:List TxR}(d:TxR)(h:0<l.length):j2P l=decide ((l.getD 0 d).ins=[]):=by
 cases l with
 |nil=>cases h
 |cons t l=>rfl
section
variable {a:Act}{dst:Option Tmp}{x y:Operand}{ty:TypeId}{pos:String}{after:Array Edge}{gd:Option (Nat × Bool)}
theorem j1i{m k:Int}{b:Bool}(u:World)(hb:decide (m≠k)=b)(hx:a.eval x= .int .i64 m)(hy:a.eval y= .int .i64 k):
  (execOp a.eval ⟨dst, .binOp .neq 42 x y 42,ty,pos,after,gd⟩).run Tryz.prog u= .ok (.value (.bool b)) u:=by
 have e:(m !=k)=b:=by rw[←hb];by_cases h:m=k<;>simp[h]
 subst e
 unfold execOp
 simp only[hx,hy]
 go_simp
end
section
variable {a:Act}{dst:Option Tmp}{x y:Operand}{ty:TypeId}{pos:String}{after:Array Edge}{gd:Option (Nat × Bool)}
end
section
variable {w0 u:World}{M:j0e}{g:Nat}{t:TypeId}
theorem j92{cs:Array Value}{L:List Value}(hu:EnvC w0 M u)(hm:(g,oc cs t)∈M)(h:cs.toList=L):CellsIn u u.heap.size (some ⟨g,0,none⟩) L:=fun _=>
 ⟨_,rfl,EnvX.lt hu hm,fun j v hj=>by
  rw[Addr.add_mid,Nat.zero_add]
  exact j0n hu hm (by rw[←h]at hj;rwa[Array.getElem?_toList]at hj)⟩
end
def q1u(t:TxR):Bool:=decide (t.ins.length≤6∧t.outs.length≤6)
theorem x1E{t:TxR}{n1 n2:Nat}(h1:t.ins.length=n1)(h2:t.outs.length=n2):q1u t=(decide ((n1:Int)≤6) && decide ((n2:Int)≤6)):=by
 unfold q1u
 rw[h1,h2,Bool.eq_iff_iff]
 simp only[decide_eq_true_eq,Bool.and_eq_true]
 omega
theorem x2c(r:TxR)(A1:Option Addr)(n1 c1:Nat)(A2:Option Addr)(n2 c2:Nat)(w:World)(ht:TxOk w ⟨r,A1,n1,c1,A2,n2,c2⟩):
  Rz 37 #[txV ⟨r,A1,n1,c1,A2,n2,c2⟩] w (.bool (q1u r)):=by
 unfold Rz
 have hfe:=x1E ht.l1 ht.l2
 have HN63:=hD ht.n63
 have E1:Hid (EnvX w (w.alloc (.cells (txA ⟨r,A1,n1,c1,A2,n2,c2⟩) 77)) [(w.heap.size,oc (txA ⟨r,A1,n1,c1,A2,n2,c2⟩) 77)]):=(EnvX.start w).new _
 dsimp only at hfe
 rw[hfe]
 clear hfe ht
 obtain⟨d,hd⟩: ∃d,decide ((n2:Int)≤6)=d:=⟨_,rfl⟩
 have HD:=hD hd
 rw[hd]
 clear hd
 unfold txV
 cases hb:decide ((n1:Int)≤6)with
 |false=>
  have C1:=hD hb
  clear hb
  go_enter func37,ntmps37
  go_upto_region 1 with (fail)
  generalize w.alloc (.cells (txA ⟨r,A1,n1,c1,A2,n2,c2⟩) 77)=W at *
  refine rgQ [0,1,2,3,4,5,6,7,8,9,10] [] E1 rfl fun hw=>?_
  refine qo rfl hw ?_
  refine ql rfl mH trivial hw ?_
  refine qv rfl (fun u hu=>j0l underlying74 HN63.out.1 u rfl) hw ?_
  refine qv rfl (fun u hu=>j4A u C1.out rfl rfl) hw ?_
  refine qw 7 hw ?_
  refine enP fun u3 EX2=>?_
  have HBE:=hD (EnvX.bel EX2.out)
  go_wp2
  go_ret
  exact⟨rfl,HBE.out⟩
 |true=>
  have C1:=hD hb
  clear hb
  go_enter func37,ntmps37
  go_upto_region 1 with (fail)
  generalize w.alloc (.cells (txA ⟨r,A1,n1,c1,A2,n2,c2⟩) 77)=W at *
  refine rgQ [0,1,2,3,4,5,6,7,8,9,10] [] E1 rfl fun hw=>?_
  refine qo rfl hw ?_
  refine ql rfl mH trivial hw ?_
  refine qv rfl (fun u hu=>j0l underlying74 HN63.out.1 u rfl) hw ?_
  refine qv rfl (fun u hu=>j4A u C1.out rfl rfl) hw ?_
  refine qw 2 hw ?_
  refine ql rfl mH trivial hw ?_
  refine qv rfl (fun u hu=>j0l underlying75 HN63.out.2 u rfl) hw ?_
  refine qv rfl (fun u hu=>j4A u HD.out rfl rfl) hw ?_
  refine qw 2 hw ?_
  refine enP fun u3 EX2=>?_
  have HBE:=hD (EnvX.bel EX2.out)
  go_wp2
  go_ret
  exact⟨rfl,HBE.out⟩
theorem x22(t:TxM)(w:World)(ht:TxOk w t):Rz 37 #[txV t] w (.bool (q1u t.r)):=by
 unfold Rz
 obtain⟨r,A1,n1,c1,A2,n2,c2⟩:=t
 exact x2c r A1 n1 c1 A2 n2 c2 w ht
def CoB(q:List CoinR)(A:Option Addr)(N:j0e):Prop:=((q.map coC).flatten=[]∧N=[])∨
  ∃ad o,A=some ad∧N=[(ad.block,o)]∧ ∀u:World,u.heap[ad.block]?=some o→ ∀j v,((q.map coC).flatten)[j]?=some v→u.cell? (ad.add j)=some v
theorem CoB.read{q:List CoinR}{A:Option Addr}{N M:j0e}{w0 u:World}(h:CoB q A N)(hu:EnvX w0 u M)(hN: ∀y∈N,y∈M):CoinsIn u u.heap.size A q:=by
 intro hp
 rcases h with ⟨h,_⟩|⟨ad,o,rfl,rfl,hc⟩
 · rw[h]at hp;exact absurd hp (Nat.lt_irrefl 0)
 · have hm:=hN _ (mS.2 rfl)
   exact⟨ad,rfl,hu.lt hm,hc u (hu.box _ _ hm)⟩
theorem CoB.of{q:List CoinR}{A:Option Addr}{w:World}(h:CoinsIn w w.heap.size A q): ∃N,CoB q A N∧ ∀y∈N,w.heap[y.1]?=some y.2:=by
 by_cases h0:(q.map coC).flatten=[]
 · exact⟨[], .inl ⟨h0,rfl⟩,fun y hy=>by cases hy⟩
 · obtain⟨ad,rfl,hb,hc⟩:=h (List.length_pos_iff.2 h0)
   refine⟨[(ad.block,w.heap[ad.block])], .inr ⟨ad,_,rfl,rfl,fun u hu j v hv=>?_⟩,fun y hy=>by cases mS.1 hy;exact Array.getElem?_eq_getElem hb⟩
   have h1:=hc j v hv
   have hbl:(ad.add j).block=ad.block:=j0N _ _
   unfold World.cell? at h1 ⊢
   rw[hbl]at h1 ⊢
   rw[hu]
   rw[Array.getElem?_eq_getElem hb]at h1
   exact h1
theorem q3Z{f:FuncId}{args:Array Value}{u w0:World}{M:j0e}{q:List CoinR}{x:Value}(h:Calls Tryz.prog f args u fun e w'=>(∃v,e= .returned (.tuple #[v,x])∧x3q w' v q)∧Below u.heap.size u w')(hu:EnvX w0 u M):
  Calls Tryz.prog f args u fun e w'=> ∃r M',e= .returned r∧EnvX w0 w' M'∧ ∃A c N,r= .tuple #[.slice A q.length c,x]∧M'=N++M∧(q.length≤c∧c≤maxLen)∧CoB q A N:=
 h.mono fun e w'⟨⟨v,he,A,c,hv,h1,h2,h3⟩,hb⟩=>by
  subst hv
  obtain⟨N,hN,hbx⟩:=CoB.of h3
  have hE:=EnvX.below hu hb
  refine⟨_,N++M,he,⟨hE.bel,fun g o hm=>?_⟩,A,c,N,rfl,rfl,⟨h1,h2⟩,hN⟩
  rcases List.mem_append.1 hm with h|h
  · exact hbx _ h
  · exact hE.box g o h
attribute [local go_sem ↓] Go.wp_at_zero Go.wp_at_succ
def j49(a k:Nat):Nat:=a/2^ (256- k)
theorem x0D(a:Nat)(h:a<Big):j49 a 0=0:=by
 unfold j49
 rw[j76]at h
 exact Nat.div_eq_of_lt h
theorem x2Q(a:Nat):j49 a 256=a:=by
 unfold j49
 simp
theorem x0b(a k:Nat)(h:k<256):j49 a (k+1)=2*j49 a k+j6K a (255- k):=by
 unfold j49 j6K
 have e:256- k=(256- (k+1))+1:=by omega
 rw[e,Nat.pow_succ,←Nat.div_div_eq_div_mul,show 255- k=256- (k+1)by omega]
 omega
theorem x4k(a k:Nat)(h:a<Big)(hk:k≤256):j49 a k<2^k:=by
 unfold j49
 rw[j76]at h
 rw[Nat.div_lt_iff_lt_mul (Nat.two_pow_pos _),←Nat.pow_add,show k+(256- k)=256 by omega]
 exact h
theorem q1w(a i:Nat):j6K a i<2:=Nat.mod_lt _ (by omega)
theorem x2V(v b:Nat)(hv:v<18446744073709551616)(h2:v % 2=0)(hb:b<2):bits .or .u64 (v:Int) (b:Int)=((v+b:Nat):Int):=by
 rw[bits_or_u64_nat v b hv (by omega)]
 congr 1
 have h:=Nat.shiftLeft_add_eq_or_of_lt (a:=v/2) (b:=b) (i:=1) (by omega)
 rw[Nat.shiftLeft_eq]at h
 rw[show v/2*2^1=v by omega]at h
 exact h.symm
theorem W0(m:Nat):W m 0=m % 18446744073709551616:=by
 unfold W
 simp
theorem j8R(v b:Nat)(hv:v<Big)(h2:v % 2=0)(hb:b<2):(wcs v).setIfInBounds 0 (.int .u64 (bits .or .u64 (W v 0) b))=wcs (v+b):=by
 obtain⟨x,y,z,u,rfl,hx,hy,hz,hu⟩:=j7z v hv
 have e:mk4 x y z u+b=mk4 (x+b) y z u:=by unfold mk4;omega
 have hx2:x % 2=0:=by unfold mk4 at h2;omega
 have ew:W (mk4 x y z u) 0=x:=by rw[W0];unfold mk4;omega
 rw[e,ew,x2V x b hx hx2 hb]
 unfold wcs
 rw[j32 x y z u hx hy hz hu,j32 (x+b) y z u (by omega) hy hz hu]
 rfl
theorem q64(a b k:Nat)(hb:0<b)(hB:b<Big)(l v:Nat)(hl:l=j49 a k % b)(hv:v=2*l+j6K a (255- k))(hk:k<256):
   (b≤v→j49 a (k+1) /b=2*(j49 a k/b)+1∧j49 a (k+1) % b=v- b)∧(v<b→j49 a (k+1) /b=2*(j49 a k/b)∧j49 a (k+1) % b=v):=by
 have ht:=x0b a k hk
 have hlb:l<b:=hl ▸ Nat.mod_lt _ hb
 have hbit:=q1w a (255- k)
 have e:j49 a (k+1)=b*(2*(j49 a k/b))+v:=by
   rw[ht,hv,hl]
   have:=Nat.div_add_mod (j49 a k) b
   generalize j49 a k/b=q at *
   rw[show b*(2*q)=2*(b*q)by rw[Nat.mul_left_comm]]
   omega
 constructor
 · intro h
   have e2:j49 a (k+1)=(v- b)+b*(2*(j49 a k/b)+1):=by
    rw[e,Nat.mul_add,Nat.mul_one];omega
   have hlt:v- b<b:=by omega
   rw[e2,Nat.add_mul_div_left _ _ hb,Nat.add_mul_mod_self_left,Nat.div_eq_of_lt hlt,Nat.mod_eq_of_lt hlt]
   exact⟨by omega,rfl⟩
 · intro h
   rw[e,Nat.mul_add_div hb,Nat.mul_add_mod,Nat.div_eq_of_lt h,Nat.mod_eq_of_lt h]
   exact⟨by omega,rfl⟩
structure DivAt(w u:World)(g a b q l:Nat):Prop where
  a:u.heap[g]?=some (.cells (wcs a) 32 (0,0))
  b:u.heap[g+1]?=some (.cells (wcs b) 32 (0,0))
  r:u.heap[g+1+1]?=some (.cells (wcs 0) 32 (0,0))
  s:u.heap[g+1+1+1]?=some (.cells (wcs 0) 32 (0,0))
  q:u.heap[g+1+1+1+1]?=some (.cells (wcs q) 32 (0,0))
  l:u.heap[g+1+1+1+1+1]?=some (.cells (wcs l) 32 (0,0))
  lt:g+1+1+1+1+1<u.heap.size
  bel:Below g w u
theorem DivAt.below{w u v:World}{g a b q l:Nat}(h:DivAt w u g a b q l)(hb:Below u.heap.size u v):DivAt w v g a b q l:=by
 have:=h.lt
 exact⟨(hb.block _ (by omega)).trans h.a,(hb.block _ (by omega)).trans h.b,(hb.block _ (by omega)).trans h.r,(hb.block _ (by omega)).trans h.s,(hb.block _ (by omega)).trans h.q,(hb.block _ (by omega)).trans h.l,Nat.lt_of_lt_of_le h.lt hb.size,h.bel.trans (hb.mono (by omega))⟩
theorem DivAt.setL{w u:World}{g a b q l l':Nat}(h:DivAt w u g a b q l):DivAt w (u.setRow (g+1+1+1+1+1) (wcs l')) g a b q l':=by
 have:=h.lt
 exact⟨(setRow_other _ _ _ _ (by omega)).trans h.a,(setRow_other _ _ _ _ (by omega)).trans h.b,(setRow_other _ _ _ _ (by omega)).trans h.r,(setRow_other _ _ _ _ (by omega)).trans h.s,(setRow_other _ _ _ _ (by omega)).trans h.q,setRow_heap _ _ (wcs l) _ _ _ h.l,by rw[j75];exact h.lt,j0G h.bel (by omega) _⟩
theorem DivAt.setQ{w u:World}{g a b q l q':Nat}(h:DivAt w u g a b q l):DivAt w (u.setRow (g+1+1+1+1) (wcs q')) g a b q' l:=by
 have:=h.lt
 exact⟨(setRow_other _ _ _ _ (by omega)).trans h.a,(setRow_other _ _ _ _ (by omega)).trans h.b,(setRow_other _ _ _ _ (by omega)).trans h.r,(setRow_other _ _ _ _ (by omega)).trans h.s,setRow_heap _ _ (wcs q) _ _ _ h.q,(setRow_other _ _ _ _ (by omega)).trans h.l,by rw[j75];exact h.lt,j0G h.bel (by omega) _⟩
theorem DivAt.drew{w u:World}{g a b q l:Nat}(h:DivAt w u g a b q l):DivAt w u.drew g a b q l:=⟨h.a,h.b,h.r,h.s,h.q,h.l,h.lt,h.bel.drew⟩
theorem DivAt.alloc{w u:World}{g a b q l:Nat}(h:DivAt w u g a b q l)(o:Obj):DivAt w (u.alloc o) g a b q l:=h.below ((Below.refl _ _).alloc (Nat.le_refl _) _)
theorem DivAt.bitL{w u:World}{g a b q l c:Nat}(h:DivAt w u g a b q l)(hl:l<Big)(h2:l % 2=0)(hc:c<2):DivAt w (u.setCell ⟨g+1+1+1+1+1,0,none⟩ (.int .u64 (bits .or .u64 (W l 0) c))) g a b q (l+c):=by
 have:=h.lt
 have ra:Row u g 32 (wcs a):=h.a
 have rb:Row u (g+1) 32 (wcs b):=h.b
 have rr:Row u (g+1+1) 32 (wcs 0):=h.r
 have rs:Row u (g+1+1+1) 32 (wcs 0):=h.s
 have rq:Row u (g+1+1+1+1) 32 (wcs q):=h.q
 have rl:Row u (g+1+1+1+1+1) 32 (wcs l):=h.l
 exact⟨ra.farAt (by omega) _,rb.farAt (by omega) _,rr.farAt (by omega) _,rs.farAt (by omega) _,rq.farAt (by omega) _,by rw[←j8R l c hl h2 hc];exact rl.put 0 _,by simpa using h.lt,h.bel.setCell (by simp;omega) _⟩
theorem DivAt.bitQ{w u:World}{g a b q l c:Nat}(h:DivAt w u g a b q l)(hl:q<Big)(h2:q % 2=0)(hc:c<2):DivAt w (u.setCell ⟨g+1+1+1+1,0,none⟩ (.int .u64 (bits .or .u64 (W q 0) c))) g a b (q+c) l:=by
 have:=h.lt
 have ra:Row u g 32 (wcs a):=h.a
 have rb:Row u (g+1) 32 (wcs b):=h.b
 have rr:Row u (g+1+1) 32 (wcs 0):=h.r
 have rs:Row u (g+1+1+1) 32 (wcs 0):=h.s
 have rq:Row u (g+1+1+1+1) 32 (wcs q):=h.q
 have rl:Row u (g+1+1+1+1+1) 32 (wcs l):=h.l
 exact⟨ra.farAt (by omega) _,rb.farAt (by omega) _,rr.farAt (by omega) _,rs.farAt (by omega) _,by rw[←j8R q c hl h2 hc];exact rq.put 0 _,rl.farAt (by omega) _,by simpa using h.lt,h.bel.setCell (by simp;omega) _⟩
attribute [local go_sem ↓] Go.wp_at_zero Go.wp_at_succ
theorem x1B(m:Nat)(w:World)(hm:m<Big):
  Rz 118 #[.agg (wcs m), .int .i64 1] w (.agg (wcs (2*m % Big))):=by
 unfold Rz
 have h:=x1h m 1 w hm (by decide)
 rw[show m*2^1=2*m by omega]at h
 exact h
theorem x1N(m:Nat)(w:World):
 Calls Tryz.prog 218 #[.agg (wcs m), .int .i64 255] w fun e w'=>e= .returned (.int .u64 (j6K m 255))∧w'=w.alloc (.cells (wcs m) 32):=x3E m 255 w (by decide)
theorem x32(m k:Nat)(w:World)(hk:k<256):
  Calls Tryz.prog 218 #[.agg #[.int .u64 (W m 0), .int .u64 (W m 1), .int .u64 (W m 2), .int .u64 (W m 3)], .int .i64 (255- (k:Int))] w fun e w'=>e= .returned (.int .u64 (j6K m (255- k)))∧w'=w.alloc (.cells #[.int .u64 (W m 0), .int .u64 (W m 1), .int .u64 (W m 2), .int .u64 (W m 3)] 32):=by
 have h:=x3E m (255- k) w (by omega)
 rw[j9t,show ((255- k:Nat):Int)=255- (k:Int)by omega]at h
 exact h
theorem q8C(a b k l c l1:Nat)(hlb:l<b)(hb:b<Big)(hc:j6K l 255=c)(hl1:2*l % Big=l1):l1+j6K a (255- k)<Big∧
   ((c=1∧ ¬b≤l1+j6K a (255- k)∧b≤2*l+j6K a (255- k)∧(l1+j6K a (255- k)+(Big- b)) % Big=2*l+j6K a (255- k) - b)∨
    (c=0∧b≤l1+j6K a (255- k)∧b≤2*l+j6K a (255- k)∧(l1+j6K a (255- k)+(Big- b)) % Big=2*l+j6K a (255- k) - b)∨
    (c=0∧ ¬b≤l1+j6K a (255- k)∧2*l+j6K a (255- k)<b∧l1+j6K a (255- k)=2*l+j6K a (255- k))):=by
 have he:=q1w a (255- k)
 generalize j6K a (255- k)=e at *
 unfold j6K at hc
 rw[show 2^255=57896044618658097711785492504343953926634992332820282019728792003956564819968 from rfl]at hc
 unfold Big at *
 by_cases h:l<57896044618658097711785492504343953926634992332820282019728792003956564819968
 · have hc0:c=0:=by omega
   by_cases h2:b≤l1+e
   · exact⟨by omega, .inr (.inl ⟨hc0,h2,by omega,by omega⟩)⟩
   · exact⟨by omega, .inr (.inr ⟨hc0,h2,by omega,by omega⟩)⟩
 · exact⟨by omega, .inl ⟨by omega,by omega,by omega,by omega⟩⟩
theorem j85(a:Act)(v:Value):a.put none v=a:=rfl
theorem x2G (a b:Nat) (w:World) (ha:a<Big) (hb:b<Big) (hb0:0<b):
  Rz 195 #[.agg (wcs a), .agg (wcs b)] w (.tuple #[.agg (wcs (a/b)), .agg (wcs (a % b)), .bool true]):=by
 unfold Rz
 have HA:=hD ha
 have HB:=hD hb
 have HB0:=hD hb0
 have heq:=x0g b hb
 have hz:eqN b 0=false:=by simp[eqN];omega
 rw[hz]at heq
 clear ha hb hb0 hz
 have R1:Hid (((((w.alloc (.cells (wcs a) 32)).alloc (.cells (wcs b) 32)).alloc (.cells (wcs 0) 32)).alloc (.cells (wcs 0) 32)).heap[w.heap.size+1]?=some (.cells (wcs b) 32 (0,0))):=((Row.newAt (by simp) 32 _).alloc _).alloc _
 go_enter func195,ntmps195
 go_wp2_with ((with_reducible refine wpList_load_row (o:=⟨some 13,_,_,_,_,_⟩) ?_ 32 (.tmp 3) ?_ (w.heap.size+1) ?_ 32 (wcs b) (0,0) _ ?_ underlying32 ?_ (j0w _) ?_);(rfl);(rfl);(rfl);(exact R1.out);(rfl))
 clear heq R1
 go_loopw [18] (fun i u=> ∃k:Nat,k≤256∧i= .int .i64 k∧Hid (DivAt w u w.heap.size a b (j49 a k/b) (j49 a k % b))) (fun i _=>256- (intOf i).toNat)
 case atStart=>
  refine⟨0,by omega,rfl,?_⟩
  show DivAt _ _ _ _ _ _ _
  rw[x0D a HA.out,Nat.zero_div,Nat.zero_mod]
  exact⟨((((((Row.new w 32 _).alloc _).alloc _).alloc _).alloc _).alloc _),(((((Row.newAt (by simp) 32 _).alloc _).alloc _).alloc _).alloc _),((((Row.newAt (by simp) 32 _).alloc _).alloc _).alloc _),(((Row.newAt (by simp) 32 _).alloc _).alloc _),((Row.newAt (by simp) 32 _).alloc _),(Row.newAt (by simp) 32 _),by simp,by go_grown⟩
 case round=>
  obtain⟨k,hk,rfl,K0⟩:=hrel
  by_cases hlt:k<256
  · have hk0:(0:Int)≤(k:Int):=by omega
    have hlti:(k:Int)<256:=by omega
    have HD:=hD (q64 a b k HB0.out HB.out _ _ rfl rfl hlt)
    have HLB:=hD (Nat.mod_lt (j49 a k) HB0.out)
    have HQ:=hD (Nat.lt_of_le_of_lt (Nat.div_le_self (j49 a k) b) (x4k a k HA.out hk))
    generalize j49 a k/b=q at *
    generalize j49 a k % b=l at *
    go_wp2_with ((with_reducible refine wpList_load_row (o:=⟨some 21,_,_,_,_,_⟩) ?_ 32 (.tmp 8) ?_ (w.heap.size+1+1+1+1+1) ?_ 32 (wcs l) (0,0) _ K0.out.l underlying32 ?_ (j0w _) ?_);(rfl);(rfl);(rfl);(rfl))
    refine(x1N l wr).mono ?_
    rintro e w1 ⟨rfl,rfl⟩
    have K1:=hD (K0.out.alloc (.cells (wcs l) 32))
    clear K0
    generalize wr.alloc (.cells (wcs l) 32)=w1 at *
    generalize hlost:j6K l 255=c at *
    have HC:=hD hlost
    clear hlost
    go_wp2_with ((with_reducible refine wpList_load_row (o:=⟨some 24,_,_,_,_,_⟩) ?_ 32 (.tmp 8) ?_ (w.heap.size+1+1+1+1+1) ?_ 32 (wcs l) (0,0) _ K1.out.l underlying32 ?_ (j0w _) ?_);(rfl);(rfl);(rfl);(rfl))
    refine(x1B l w1 (by have:=HLB.out;have:=HB.out;omega)).mono ?_
    rintro e w2 ⟨rfl,hbel⟩
    have K2:=hD (K1.out.below hbel)
    clear K1 hbel
    have hl1:Hid (2*l % Big<Big):=Nat.mod_lt _ j7x
    have hl2:Hid (2*l % Big % 2=0):=by show _=_;unfold Big;omega
    generalize hl':2*l % Big=l1 at *
    have HL1:=hD hl'
    clear hl'
    have K3:Hid (DivAt w (w2.setRow (w.heap.size+1+1+1+1+1) (wcs l1)) w.heap.size a b q l1):=K2.out.setL
    have KL:Hid (w2.heap[w.heap.size+1+1+1+1+1]?=some (.cells (wcs l) 32 (0,0))):=K2.out.l
    clear K2
    go_upto_region 9 with ((with_reducible refine wpList_store_row (o:=⟨none, .store 32 _ _,_,_,_,_⟩) ?_ 32 (.tmp 8) (.tmp 25) ?_ (w.heap.size+1+1+1+1+1) (wcs l1) ?_ ?_ 32 (wcs l) KL.out (j0w l1) (by rw[j0s,j0s]) (j1v l1) ?_);(rfl);(rfl);(rfl);(rfl))
    clear KL
    generalize w2.setRow (w.heap.size+1+1+1+1+1) (wcs l1)=w3 at *
    have ra:Row w3 w.heap.size 32 (wcs a):=K3.out.a
    have rl:Row w3 (w.heap.size+1+1+1+1+1) 32 (wcs l1):=K3.out.l
    have c0:w3.cell? ⟨w.heap.size,0,none⟩=some (.int .u64 (W a 0)):=(ra.cell 0).trans (j2U a 0 (by decide))
    have c1:w3.cell? ⟨w.heap.size,1,none⟩=some (.int .u64 (W a 1)):=(ra.cell 1).trans (j2U a 1 (by decide))
    have c2:w3.cell? ⟨w.heap.size,2,none⟩=some (.int .u64 (W a 2)):=(ra.cell 2).trans (j2U a 2 (by decide))
    have c3:w3.cell? ⟨w.heap.size,3,none⟩=some (.int .u64 (W a 3)):=(ra.cell 3).trans (j2U a 3 (by decide))
    have d0:w3.cell? ⟨w.heap.size+1+1+1+1+1,0,none⟩=some (.int .u64 (W l1 0)):=(rl.cell 0).trans (j2U l1 0 (by decide))
    have f0:w3.frozen? ⟨w.heap.size+1+1+1+1+1,0,none⟩=false:=rl.frozen 0
    have s5:w.heap.size+1+1+1+1+1<w3.heap.size:=K3.out.lt
    have s4:w.heap.size+1+1+1+1<w3.heap.size:=by omega
    have s0:w.heap.size<w3.heap.size:=by omega
    have dw:IntKind.i64.wrap (255- (k:Int))=255- (k:Int):=by rw[IntWalk.i64_in _ (by omega)]
    clear ra rl
    rw[j85]
    go_cut [] (fun wx=>Hid (DivAt w wx w.heap.size a b q (l1+j6K a (255- k))))
    case first=>
     go_region_law (first|(go_simp;go_at_call 218;refine(x32 a k _ hlt).mono ?_;rintro e w' ⟨rfl,rfl⟩))
     all_goals (go_wp2_with fail;go_meet;exact((K3.out.bitL hl1.out hl2.out (q1w _ _)).alloc _).drew)
    case rest=>
     have K4:=hcut
     clear hcut c0 c1 c2 c3 d0 f0 s5 s4 s0 dw K3
     have HDC:=hD (q8C a b k l c l1 HLB.out HB.out HC.out HL1.out)
     clear HC HL1 hl1 hl2
     generalize j6K a (255- k)=e at *
     generalize hv:l1+e=v at *
     have HV:=hD hv
     clear hv
     have hv1:Hid (v<Big):=HDC.out.1
     have hq1:Hid (2*q<Big):=by
       show _<_
       have h:=HQ.out
       rw[j76]
       have:2^ (k+1)≤2^256:=Nat.pow_le_pow_right (by omega) (by omega)
       rw[Nat.pow_succ]at this
       omega
     go_wp2_with ((with_reducible refine wpList_load_row (o:=⟨some 34,_,_,_,_,_⟩) ?_ 32 (.tmp 7) ?_ (w.heap.size+1+1+1+1) ?_ 32 (wcs q) (0,0) _ K4.out.q underlying32 ?_ (j0w _) ?_);(rfl);(rfl);(rfl);(rfl))
     refine(x1B q wc (by have:=hq1.out;omega)).mono ?_
     rintro e' w5 ⟨rfl,hbel⟩
     rw[Nat.mod_eq_of_lt hq1.out]
     have K5:=hD (K4.out.below hbel)
     have K6:Hid (DivAt w (w5.setRow (w.heap.size+1+1+1+1) (wcs (2*q))) w.heap.size a b (2*q) v):=K5.out.setQ
     have KQ:Hid (w5.heap[w.heap.size+1+1+1+1]?=some (.cells (wcs q) 32 (0,0))):=K5.out.q
     clear hbel K5 K4
     go_wp2_with (first
       |((with_reducible refine wpList_store_row (o:=⟨none, .store 32 _ _,_,_,_,_⟩) ?_ 32 (.tmp 7) (.tmp 35) ?_ (w.heap.size+1+1+1+1) (wcs (2*q)) ?_ ?_ 32 (wcs q) KQ.out (j0w _) (by rw[j0s,j0s]) (j1v _) ?_);(rfl);(rfl);(rfl);(rfl))
       |((with_reducible refine wpList_load_row (o:=⟨some 37,_,_,_,_,_⟩) ?_ 32 (.tmp 8) ?_ (w.heap.size+1+1+1+1+1) ?_ 32 (wcs v) (0,0) _ K6.out.l underlying32 ?_ (j0w _) ?_);(rfl);(rfl);(rfl);(rfl))
       |((with_reducible refine wpList_load_row (o:=⟨some 38,_,_,_,_,_⟩) ?_ 32 (.tmp 3) ?_ (w.heap.size+1) ?_ 32 (wcs b) (0,0) _ K6.out.b underlying32 ?_ (j0w _) ?_);(rfl);(rfl);(rfl);(rfl)))
     clear KQ
     generalize w5.setRow (w.heap.size+1+1+1+1) (wcs (2*q))=w6 at *
     refine(q2n v b w6 hv1.out HB.out).mono ?_
     rintro e' w7 ⟨rfl,hbel⟩
     have K7:=hD (K6.out.below hbel)
     clear hbel K6 HLB HQ HV
     rcases HDC.out.2 with ⟨hc,hle,hbv,hmod⟩|⟨hc,hle,hbv,hmod⟩|⟨hc,hle,hbv,hmod⟩
     · have hcb:((c:Int)==1)=true:=by rw[hc];rfl
       have hle':decide (b≤v)=false:=by simpa using hle
       have hnew:Hid (j49 a (k+1) /b=2*q+1∧j49 a (k+1) % b=(v+(Big- b)) % Big):=by
        show _∧_
        rw[hmod]
        exact HD.out.1 hbv
       rw[hcb,hle']
       clear hcb hle' hmod hbv hle hc HD HDC
       have hsz:=hD (j0s ((v+(Big- b)) % Big))
       have hon:=hD (j1v ((v+(Big- b)) % Big))
       have hin:=hD (j0w ((v+(Big- b)) % Big))
       have K8:Hid (DivAt w ((w7.alloc (.cells (wcs ((v+(Big- b)) % Big)) 32)).setRow (w.heap.size+1+1+1+1+1) (wcs ((v+(Big- b)) % Big))) w.heap.size a b (2*q) ((v+(Big- b)) % Big)):=(K7.out.alloc _).setL
       have KL:Hid ((w7.alloc (.cells (wcs ((v+(Big- b)) % Big)) 32)).heap[w.heap.size+1+1+1+1+1]?=some (.cells (wcs v) 32 (0,0))):=(K7.out.alloc _).l
       clear K7
       generalize (v+(Big- b)) % Big=r at *
       go_upto_region 14 with (first
        |((with_reducible refine wpList_store_row (o:=⟨none, .store 32 (.tmp 11) _,_,_,_,_⟩) ?_ 32 (.tmp 11) (.tmp 40) ?_ w7.heap.size (wcs r) ?_ ?_ 32 _ (heap_alloc_last w7 _) hin.out ?_ hon.out ?_);(rfl);(rfl);(rfl);(rfl);(rw[hsz.out];rfl);rw[World.setRow_alloc_new])
        |((with_reducible refine wpList_load_row (o:=⟨some 46,_,_,_,_,_⟩) ?_ 32 (.tmp 11) ?_ w7.heap.size ?_ 32 (wcs r) (0,0) _ (heap_alloc_last w7 _) underlying32 ?_ (j0w _) ?_);(rfl);(rfl);(rfl);(rfl))
        |((with_reducible refine wpList_store_row (o:=⟨none, .store 32 (.tmp 8) _,_,_,_,_⟩) ?_ 32 (.tmp 8) (.tmp 46) ?_ (w.heap.size+1+1+1+1+1) (wcs r) ?_ ?_ 32 (wcs v) KL.out hin.out (by rw[j0s,j0s]) hon.out ?_);(rfl);(rfl);(rfl);(rfl)))
       clear KL hsz hon hin
       generalize (w7.alloc (.cells (wcs r) 32)).setRow (w.heap.size+1+1+1+1+1) (wcs r)=w8 at *
       try rw[j85]
       have rq:Row w8 (w.heap.size+1+1+1+1) 32 (wcs (2*q)):=K8.out.q
       have d0:w8.cell? ⟨w.heap.size+1+1+1+1,0,none⟩=some (.int .u64 (W (2*q) 0)):=(rq.cell 0).trans (j2U (2*q) 0 (by decide))
       have f0:w8.frozen? ⟨w.heap.size+1+1+1+1,0,none⟩=false:=rq.frozen 0
       clear rq
       have K9:=hD (K8.out.bitQ (c:=1) hq1.out (by omega) (by omega))
       clear K8
       go_wp2
       go_roundw
       case rel=>
        refine⟨k+1,by omega,by go_num,?_⟩
        show DivAt _ _ _ _ _ _ _
        rw[hnew.out.1,hnew.out.2]
        exact K9.out
       case measure=>simp[intOf];omega
     · have hcb:((c:Int)==1)=false:=by rw[hc];rfl
       have hle':decide (b≤v)=true:=by simpa using hle
       have hnew:Hid (j49 a (k+1) /b=2*q+1∧j49 a (k+1) % b=(v+(Big- b)) % Big):=by
        show _∧_
        rw[hmod]
        exact HD.out.1 hbv
       rw[hcb,hle']
       clear hcb hle' hmod hbv hle hc HD HDC
       have hsz:=hD (j0s ((v+(Big- b)) % Big))
       have hon:=hD (j1v ((v+(Big- b)) % Big))
       have hin:=hD (j0w ((v+(Big- b)) % Big))
       have K8:Hid (DivAt w ((w7.alloc (.cells (wcs ((v+(Big- b)) % Big)) 32)).setRow (w.heap.size+1+1+1+1+1) (wcs ((v+(Big- b)) % Big))) w.heap.size a b (2*q) ((v+(Big- b)) % Big)):=(K7.out.alloc _).setL
       have KL:Hid ((w7.alloc (.cells (wcs ((v+(Big- b)) % Big)) 32)).heap[w.heap.size+1+1+1+1+1]?=some (.cells (wcs v) 32 (0,0))):=(K7.out.alloc _).l
       clear K7
       generalize (v+(Big- b)) % Big=r at *
       go_upto_region 14 with (first
        |((with_reducible refine wpList_store_row (o:=⟨none, .store 32 (.tmp 11) _,_,_,_,_⟩) ?_ 32 (.tmp 11) (.tmp 40) ?_ w7.heap.size (wcs r) ?_ ?_ 32 _ (heap_alloc_last w7 _) hin.out ?_ hon.out ?_);(rfl);(rfl);(rfl);(rfl);(rw[hsz.out];rfl);rw[World.setRow_alloc_new])
        |((with_reducible refine wpList_load_row (o:=⟨some 46,_,_,_,_,_⟩) ?_ 32 (.tmp 11) ?_ w7.heap.size ?_ 32 (wcs r) (0,0) _ (heap_alloc_last w7 _) underlying32 ?_ (j0w _) ?_);(rfl);(rfl);(rfl);(rfl))
        |((with_reducible refine wpList_store_row (o:=⟨none, .store 32 (.tmp 8) _,_,_,_,_⟩) ?_ 32 (.tmp 8) (.tmp 46) ?_ (w.heap.size+1+1+1+1+1) (wcs r) ?_ ?_ 32 (wcs v) KL.out hin.out (by rw[j0s,j0s]) hon.out ?_);(rfl);(rfl);(rfl);(rfl)))
       clear KL hsz hon hin
       generalize (w7.alloc (.cells (wcs r) 32)).setRow (w.heap.size+1+1+1+1+1) (wcs r)=w8 at *
       try rw[j85]
       have rq:Row w8 (w.heap.size+1+1+1+1) 32 (wcs (2*q)):=K8.out.q
       have d0:w8.cell? ⟨w.heap.size+1+1+1+1,0,none⟩=some (.int .u64 (W (2*q) 0)):=(rq.cell 0).trans (j2U (2*q) 0 (by decide))
       have f0:w8.frozen? ⟨w.heap.size+1+1+1+1,0,none⟩=false:=rq.frozen 0
       clear rq
       have K9:=hD (K8.out.bitQ (c:=1) hq1.out (by omega) (by omega))
       clear K8
       go_wp2
       go_roundw
       case rel=>
        refine⟨k+1,by omega,by go_num,?_⟩
        show DivAt _ _ _ _ _ _ _
        rw[hnew.out.1,hnew.out.2]
        exact K9.out
       case measure=>simp[intOf];omega
     · have hcb:((c:Int)==1)=false:=by rw[hc];rfl
       have hle':decide (b≤v)=false:=by simpa using hle
       have hnew:Hid (j49 a (k+1) /b=2*q∧j49 a (k+1) % b=v):=by
        show _∧_
        rw[hmod]
        exact HD.out.2 hbv
       rw[hcb,hle']
       clear hcb hle' hmod hbv hle hc HD HDC
       have hsz:=hD (j0s ((v+(Big- b)) % Big))
       have hon:=hD (j1v ((v+(Big- b)) % Big))
       have hin:=hD (j0w ((v+(Big- b)) % Big))
       have K8:=hD (K7.out.alloc (.cells (wcs ((v+(Big- b)) % Big)) 32))
       clear K7
       generalize (v+(Big- b)) % Big=r at *
       go_wp2_with ((with_reducible refine wpList_store_row (o:=⟨none, .store 32 (.tmp 11) _,_,_,_,_⟩) ?_ 32 (.tmp 11) (.tmp 40) ?_ w7.heap.size (wcs r) ?_ ?_ 32 _ (heap_alloc_last w7 _) hin.out ?_ hon.out ?_);(rfl);(rfl);(rfl);(rfl);(rw[hsz.out];rfl);rw[World.setRow_alloc_new])
       go_roundw
       case rel=>
        refine⟨k+1,by omega,by go_num,?_⟩
        show DivAt _ _ _ _ _ _ _
        rw[hnew.out.1,hnew.out.2]
        exact K8.out
       case measure=>simp[intOf];omega
  · obtain rfl:k=256:=by omega
    have K:Hid (DivAt w wr w.heap.size a b (a/b) (a % b)):=by
     show DivAt _ _ _ _ _ _ _
     have h:=K0.out
     rw[x2Q]at h
     exact h
    clear K0
    have hbel:=K.out.bel
    have eq1:=hD (j9t (a/b))
    have eq2:=hD (j9t (a % b))
    have rr:Row wr (w.heap.size+1+1) 32 (wcs 0):=K.out.r
    have rs:Row wr (w.heap.size+1+1+1) 32 (wcs 0):=K.out.s
    have rq:Row wr (w.heap.size+1+1+1+1) 32 (wcs (a/b)):=K.out.q
    have rl:Row wr (w.heap.size+1+1+1+1+1) 32 (wcs (a % b)):=K.out.l
    have q0:=(rq.cell 0).trans (j2U (a/b) 0 (by decide))
    have l0:=(rl.cell 0).trans (j2U (a % b) 0 (by decide))
    have r0:wr.cell? ⟨w.heap.size+1+1,0,none⟩=some (.int .u64 0):=(rr.cell 0).trans rfl
    have s0:wr.cell? ⟨w.heap.size+1+1+1,0,none⟩=some (.int .u64 0):=(rs.cell 0).trans rfl
    have fr0:=rr.frozen 0
    have fs0:=rs.frozen 0
    have q1:=(rq.cell 1).trans (j2U (a/b) 1 (by decide))
    have l1:=(rl.cell 1).trans (j2U (a % b) 1 (by decide))
    have r1:wr.cell? ⟨w.heap.size+1+1,1,none⟩=some (.int .u64 0):=(rr.cell 1).trans rfl
    have s1:wr.cell? ⟨w.heap.size+1+1+1,1,none⟩=some (.int .u64 0):=(rs.cell 1).trans rfl
    have fr1:=rr.frozen 1
    have fs1:=rs.frozen 1
    have q2:=(rq.cell 2).trans (j2U (a/b) 2 (by decide))
    have l2:=(rl.cell 2).trans (j2U (a % b) 2 (by decide))
    have r2:wr.cell? ⟨w.heap.size+1+1,2,none⟩=some (.int .u64 0):=(rr.cell 2).trans rfl
    have s2:wr.cell? ⟨w.heap.size+1+1+1,2,none⟩=some (.int .u64 0):=(rs.cell 2).trans rfl
    have fr2:=rr.frozen 2
    have fs2:=rs.frozen 2
    have q3:=(rq.cell 3).trans (j2U (a/b) 3 (by decide))
    have l3:=(rl.cell 3).trans (j2U (a % b) 3 (by decide))
    have r3:wr.cell? ⟨w.heap.size+1+1,3,none⟩=some (.int .u64 0):=(rr.cell 3).trans rfl
    have s3:wr.cell? ⟨w.heap.size+1+1+1,3,none⟩=some (.int .u64 0):=(rs.cell 3).trans rfl
    have fr3:=rr.frozen 3
    have fs3:=rs.frozen 3
    have RR:=hD rr
    have RS:=hD rs
    clear rr rs rq rl K
    generalize W (a/b) 0=x0 at *
    generalize W (a/b) 1=x1 at *
    generalize W (a/b) 2=x2 at *
    generalize W (a/b) 3=x3 at *
    generalize W (a % b) 0=y0 at *
    generalize W (a % b) 1=y1 at *
    generalize W (a % b) 2=y2 at *
    generalize W (a % b) 3=y3 at *
    go_wp2_with fail
    go_region
    have F1:=hD ((((((((RR.out.put 0 (.int .u64 x0)).put 1 (.int .u64 x1)).put 2 (.int .u64 x2)).put 3 (.int .u64 x3)).farAt (g':=w.heap.size+1+1+1) (i:=0) (by omega) (.int .u64 y0)).farAt (g':=w.heap.size+1+1+1) (i:=1) (by omega) (.int .u64 y1)).farAt (g':=w.heap.size+1+1+1) (i:=2) (by omega) (.int .u64 y2)).farAt (g':=w.heap.size+1+1+1) (i:=3) (by omega) (.int .u64 y3)).drew
    have F2:=hD ((((((((RS.out.farAt (g':=w.heap.size+1+1) (i:=0) (by omega) (.int .u64 x0)).farAt (g':=w.heap.size+1+1) (i:=1) (by omega) (.int .u64 x1)).farAt (g':=w.heap.size+1+1) (i:=2) (by omega) (.int .u64 x2)).farAt (g':=w.heap.size+1+1) (i:=3) (by omega) (.int .u64 x3)).put 0 (.int .u64 y0)).put 1 (.int .u64 y1)).put 2 (.int .u64 y2)).put 3 (.int .u64 y3)).drew
    clear q0 q1 q2 q3 l0 l1 l2 l3 r0 r1 r2 r3 s0 s1 s2 s3 fr0 fr1 fr2 fr3 fs0 fs1 fs2 fs3
    go_wp2_with ((with_reducible refine bodyPost_ret (v:= .tuple #[.agg #[.int .u64 x0, .int .u64 x1, .int .u64 x2, .int .u64 x3], .agg #[.int .u64 y0, .int .u64 y1, .int .u64 y2, .int .u64 y3], .bool true]) ?_ ?_ ?_);(exact j6q (p:=4) (p':=5) (q:=6) (ty:=32) results195 _ _ (w.heap.size+1+1) (w.heap.size+1+1+1) 32 #[.int .u64 x0, .int .u64 x1, .int .u64 x2, .int .u64 x3] #[.int .u64 y0, .int .u64 y1, .int .u64 y2, .int .u64 y3] (0,0) _ rfl rfl _ rfl F1.out F2.out underlying32 rfl (j3V _ rfl) (j3V _ rfl));(rfl))
    refine⟨by rw[eq1.out,eq2.out],?_⟩
    refine Below.drew ?_
    repeat (refine Below.setCell ?_ (by simp;omega) _)
    exact hbel
def j1u(f:Nat→Nat)(p:Nat):Nat→Nat
  |0=>0
  |k+1=>if 3- k/8=p then 256*j1u f p k+f k else j1u f p k
theorem j5h(f:Nat→Nat)(p k:Nat)(hp:p<4)(hk:k≤8*(3- p)):j1u f p k=0:=by
 induction k with
 |zero=>rfl
 |succ k ih=>rw[j1u,if_neg (by omega),ih (by omega)]
theorem j6k(f:Nat→Nat)(hf: ∀i,f i<256)(p j:Nat)(hp:p<4)(hj:j≤8):j1u f p (8*(3- p)+j)<256^j:=by
 induction j with
 |zero=>rw[Nat.add_zero,j5h f p _ hp (by omega)];decide
 |succ j ih=>
  have:=ih (by omega)
  have:=hf (8*(3- p)+j)
  rw[←Nat.add_assoc,j1u,if_pos (by omega),Nat.pow_succ]
  omega
theorem j9p(f:Nat→Nat)(p j:Nat)(hp:p<4)(hj:8*(3- p)+8+j≤32):j1u f p (8*(3- p)+8+j)=j1u f p (8*(3- p)+8):=by
 induction j with
 |zero=>rfl
 |succ j ih=>rw[←Nat.add_assoc,j1u,if_neg (by omega),ih (by omega)]
theorem j12(f:Nat→Nat)(hf: ∀i,f i<256)(p k:Nat)(hp:p<4)(hk:k≤32):j1u f p k<18446744073709551616:=by
 by_cases h1:k≤8*(3- p)
 · rw[j5h f p k hp h1];decide
 · by_cases h2:k≤8*(3- p)+8
   · have h:=j6k f hf p (k- 8*(3- p)) hp (by omega)
     rw[show 8*(3- p)+(k- 8*(3- p))=k by omega]at h
     have:256^ (k- 8*(3- p))≤256^8:=Nat.pow_le_pow_right (by omega) (by omega)
     exact Nat.lt_of_lt_of_le h this
   · have h:=j9p f p (k- (8*(3- p)+8)) hp (by omega)
     rw[show 8*(3- p)+8+(k- (8*(3- p)+8))=k by omega]at h
     rw[h]
     exact j6k f hf p 8 hp (by omega)
theorem j5N(f:Nat→Nat)(hf: ∀i,f i<256)(k:Nat)(hk:k<32):j1u f (3- k/8) k<72057594037927936:=by
 have h:=j6k f hf (3- k/8) (k % 8) (by omega) (by omega)
 rw[show 8*(3- (3- k/8))+k % 8=k by omega]at h
 have:256^ (k % 8)≤256^7:=Nat.pow_le_pow_right (by omega) (by omega)
 exact Nat.lt_of_lt_of_le h this
def x3u(f:Nat→Nat)(k:Nat):List Int:=[(j1u f 0 k:Int),(j1u f 1 k:Int),(j1u f 2 k:Int),(j1u f 3 k:Int)]
def j6P(f:Nat→Nat):Nat:=mk4 (j1u f 0 32) (j1u f 1 32) (j1u f 2 32) (j1u f 3 32)
theorem x0W(f:Nat→Nat)(hf: ∀i,f i<256):j6P f<Big:=q2X _ _ _ _ (j12 f hf 0 32 (by omega) (by omega)) (j12 f hf 1 32 (by omega) (by omega)) (j12 f hf 2 32 (by omega) (by omega)) (j12 f hf 3 32 (by omega) (by omega))
theorem q9U(f:Nat→Nat)(hf: ∀i,f i<256):j2b 4 (x3u f 32)=wcs (j6P f):=by
 unfold wcs j6P
 rw[j32 _ _ _ _ (j12 f hf 0 32 (by omega) (by omega)) (j12 f hf 1 32 (by omega) (by omega)) (j12 f hf 2 32 (by omega) (by omega)) (j12 f hf 3 32 (by omega) (by omega))]
 rfl
theorem q81(f:Nat→Nat)(k p:Nat)(hp:p<4):(j2b 4 (x3u f k))[p]?=some (.int .u64 (j1u f p k)):=by
 rcases p with _|_|_|_|p
 all_goals first|rfl|omega
theorem x0r(f:Nat→Nat)(k:Nat)(hk:k<32):(j2b 4 (x3u f k)).setIfInBounds (3- k/8) (.int .u64 ((256*j1u f (3- k/8) k+f k:Nat):Int))=j2b 4 (x3u f (k+1)):=by
 have key: ∀p,p<4→j1u f p (k+1)=if 3- k/8=p then 256*j1u f p k+f k else j1u f p k:=fun p _=>rfl
 have hq:k/8=0∨k/8=1∨k/8=2∨k/8=3:=by omega
 unfold x3u
 rw[key 0 (by omega),key 1 (by omega),key 2 (by omega),key 3 (by omega)]
 rcases hq with h|h|h|h<;>rw[h]<;>rfl
theorem x3a(x b:Nat)(hx:x<72057594037927936)(hb:b<256):bits .or .u64 ((x:Int)*256) (b:Int)=((256*x+b:Nat):Int):=by
 have c1:((x:Int)*256)=((x*256:Nat):Int):=by simp
 rw[c1,bits_or_u64_nat (x*256) b (by omega) (by omega)]
 congr 1
 have h:=Nat.shiftLeft_add_eq_or_of_lt (a:=x) (b:=b) (i:=8) (by omega)
 rw[Nat.shiftLeft_eq,show (2:Nat)^8=256 from rfl]at h
 rw[←h]
 omega
theorem q9s(f:Nat→Nat)(hf: ∀i,f i<256)(w:World):
  Rz 120 #[.agg (idF (fun i=>(f i:Int)))] w (.agg (wcs (j6P f))):=by
 unfold Rz
 have HF:=hD hf
 clear hf
 go_enter func120,ntmps120
 go_wp2_with fail
 go_loopw [6] (fun i u=> ∃k:Nat,k≤32∧i= .int .i64 k∧Below w.heap.size w u∧Hid (Row u w.heap.size 26 (idF (fun i=>(f i:Int)))∧Row u (w.heap.size+1) 32 (j2b 4 [])∧Row u (w.heap.size+1+1) 32 (j2b 4 (x3u f k)))) (fun i _=>32- (intOf i).toNat)
 case atStart=>exact⟨0,by omega,rfl,by go_grown,((Row.new w 26 _).alloc _).alloc _,(Row.newAt (by simp) 32 _).alloc _,Row.newAt (by simp) 32 _⟩
 case round=>
  obtain⟨k,hk,rfl,hbl,hrows⟩:=hrel
  obtain⟨r0,r1,r2⟩:=hrows.out
  by_cases hlt:k<32
  · have hk0:(0:Int)≤(k:Int):=by omega
    have hk4:(k:Int)<32:=by omega
    have e0:wr.cell? ⟨w.heap.size,k,none⟩=some (.int .u8 (f k:Int)):=(r0.cell k).trans (q2m _ k hlt)
    have e2:wr.cell? ⟨w.heap.size+1+1,3- k/8,none⟩=some (.int .u64 (j1u f (3- k/8) k)):=(r2.cell _).trans (q81 f k _ (by omega))
    have f2:wr.frozen? ⟨w.heap.size+1+1,3- k/8,none⟩=false:=r2.frozen _
    have R0:=hD r0
    have R1:=hD r1
    have R2:=hD r2
    have hput:=hD (x0r f k hlt)
    have hor:=hD (x3a _ _ (j5N f HF.out k hlt) (HF.out k))
    have hsm:=j5N f HF.out k hlt
    have hfk:=HF.out k
    clear r0 r1 r2 hrows
    generalize j1u f (3- k/8) k=x at *
    generalize f k=b at *
    have q0:0≤3- (k:Int) /8:=by omega
    have q1:3- (k:Int) /8<4:=by omega
    have q2:(3- (k:Int) /8).toNat=3- k/8:=by omega
    have hx0:(0:Int)≤(x:Int):=by omega
    have hx1:(x:Int)<72057594037927936:=by omega
    have hb0:(0:Int)≤(b:Int):=by omega
    have hb1:(b:Int)<256:=by omega
    have wx:IntKind.u64.wrap ((x:Int)*256)=(x:Int)*256:=by rw[IntKind.wrap_u64];omega
    have wb:IntKind.u64.wrap (b:Int)=(b:Int):=by rw[IntKind.wrap_u64];omega
    go_wp2_with (go_at_call 170;refine(j8N _ _ (by omega) (by omega)).mono ?_;rintro e w' ⟨rfl,rfl⟩)
    go_region
    clear wx wb q2
    go_wp2
    go_roundw
    case rel=>
     refine⟨k+1,by omega,by go_num,(hbl.setCell (by simp;omega) _).drew,R0.out.farAt (by omega) _,R1.out.farAt (by omega) _,?_⟩
     rw[←hput.out,←hor.out]
     exact R2.out.put (3- k/8) _
    case measure=>simp[intOf];omega
  · obtain rfl:k=32:=by omega
    rw[q9U f HF.out]at r2
    have hsz:=hD (j0s (j6P f))
    have hz0:=hD (j1X 4 [] (by simp))
    have ho:=hD (j1v (j6P f))
    have R1:Hid (wr.heap[w.heap.size+1]?=some (.cells (j2b 4 []) 32 (0,0))):=r1
    have R2:Hid (wr.heap[w.heap.size+1+1]?=some (.cells (wcs (j6P f)) 32 (0,0))):=r2
    clear r0 r1 r2 hrows
    generalize hE:wcs (j6P f)=cs at *
    have HE:=hD hE
    clear hE
    generalize j2b 4 []=zs at *
    go_wp2_with (first
     |((with_reducible refine wpList_load_row (o:=⟨some 23,_,_,_,_,_⟩) ?_ 32 (.tmp 3) ?_ (w.heap.size+1+1) ?_ 32 cs (0,0) _ R2.out underlying32 ?_ (j3V cs hsz.out) ?_);(rfl);(rfl);(rfl);(rfl))
     |((with_reducible refine wpList_store_row (o:=⟨none, .store 32 _ _,_,_,_,_⟩) ?_ 32 (.tmp 2) (.tmp 23) ?_ (w.heap.size+1) cs ?_ ?_ 32 zs R1.out (j3V cs hsz.out) (by rw[hz0.out,hsz.out]) ho.out ?_);(rfl);(rfl);(rfl);(rfl))
     |((with_reducible refine bodyPost_ret (v:= .agg cs) ?_ ?_ ?_);(exact results_cell_row (p:=2) (ty:=32) results120 _ _ (w.heap.size+1) 32 cs (0,0) _ rfl (setRow_heap _ _ zs cs 32 (0,0) R1.out) underlying32 rfl (j3V cs hsz.out));(rfl)))
    exact⟨by rw[HE.out],j0G hbl (by omega) _⟩
def aUp(a k:Nat):Nat:=a*2^k % Big
theorem x0k(a:Nat)(h:a<Big):aUp a 0=a:=by unfold aUp;rw[Nat.pow_zero,Nat.mul_one,Nat.mod_eq_of_lt h]
def upV(a:Nat)(n:Int):Nat:=if 256≤n then 0 else aUp a n.toNat
theorem x4P(a:Nat)(n:Int)(w:World)(ha:a<Big)(hn:n≤9223372036854775807):
   Rz 118 #[.agg (wcs a), .int .i64 n] w (.agg (wcs (upV a n))):=by
 unfold Rz
 unfold upV
 by_cases h0:n<0
 · rw[if_neg (by omega),show n.toNat=0 by omega,x0k a ha]
   exact q9l a n w h0
 · obtain⟨k,rfl⟩:=Int.eq_ofNat_of_zero_le (show 0≤n by omega)
   have h:=x1h a k w ha (by omega)
   by_cases h1:256≤(k:Int)
   · rw[if_pos h1]
     have e:a*2^k % Big=0:=by
      rw[j76,show k=256+(k- 256)by omega,Nat.pow_add,←Nat.mul_assoc,Nat.mul_comm (a*2^256),←Nat.mul_assoc]
      exact Nat.mul_mod_left _ _
     rw[e]at h
     exact h
   · rw[if_neg h1]
     exact h
abbrev wo(n:Nat):Obj:= .cells (wcs n) 32 (0,0)
abbrev io(f:Nat→Int):Obj:= .cells (idF f) 26 (0,0)
theorem q53{n:Nat}(h:n<18446744073709551616):n<Big:=by unfold Big;omega
def isC(b:Nat):Bool:=decide (3≤b/16777216∧b/16777216≤32∧32768≤b % 16777216∧b % 16777216≤8388607)
def tv(b:Nat):Nat:=if isC b then b % 16777216*2^ (8*(b/16777216- 3))else 0
theorem x30(b:Nat)(h:3≤b/16777216∧b/16777216≤32∧32768≤b % 16777216∧b % 16777216≤8388607):b % 16777216*2^ (8*(b/16777216- 3))<Big:=by
 rw[j76]
 have h1:(2:Nat)^ (8*(b/16777216- 3))≤2^232:=Nat.pow_le_pow_right (by omega) (by omega)
 calc b % 16777216*2^ (8*(b/16777216- 3))≤8388607*2^232:=Nat.mul_le_mul h.2.2.2 h1
  _<2^256:=by decide
theorem q7y(b:Nat):tv b<Big:=by
 unfold tv
 split
 · rename_i h
   exact x30 b (of_decide_eq_true h)
 · exact j7x
def wkV(t:Nat):Nat:=if t+1<Big then Big/ (t+1) % Big else 1
theorem x2j{t:Nat}(h:t+1<Big):((Big- (t+1)) / (t+1)+1) % Big=wkV t:=by
 unfold wkV
 rw[if_pos h]
 have e:Big=(Big- (t+1))+(t+1):=by omega
 have e2:Big/ (t+1)=(Big- (t+1)) / (t+1)+1:=by
  conv=>lhs;rw[e]
  exact Nat.add_div_right _ (by omega)
 rw[e2]
theorem x38(t:Nat):wkV t<Big:=by
 unfold wkV
 split
 · exact Nat.mod_lt _ j7x
 · unfold Big;omega
def lvC(n t:Nat):Nat→Nat
  |0=>0
  |k+1=>if n≤t/2^k then k+1 else lvC n t k
theorem x2K(t:Nat){i j:Nat}(h:i≤j):t/2^j≤t/2^i:=Nat.div_le_div_left (Nat.pow_le_pow_right (by omega) h) (Nat.pos_of_ne_zero (by simp))
theorem q2V(n t:Nat): ∀k,lvC n t k≤k
 |0=>Nat.le_refl _
 |k+1=>by
  unfold lvC
  split
  · omega
  · have:=q2V n t k;omega
theorem q19(n t:Nat): ∀(k j:Nat),j<k→(j<lvC n t k↔n≤t/2^j)
 |0,j,h=>by omega
 |k+1,j,h=>by
  unfold lvC
  by_cases h1:n≤t/2^k
  · rw[if_pos h1]
    have:=x2K t (show j≤k by omega)
    exact⟨fun _=>by omega,fun _=>h⟩
  · rw[if_neg h1]
    by_cases hj:j=k
    · subst hj
      have:=q2V n t j
      exact⟨fun h=>by omega,fun h=>absurd h h1⟩
    · exact q19 n t k j (by omega)
def lvI(n t:Nat):Int:=(lvC n t 32:Int) - 1
theorem x34(n t:Nat): -1≤lvI n t∧lvI n t≤31:=by have:=q2V n t 32;unfold lvI;omega
theorem q3y{n t k:Nat}(hk:k≤32)(hall: ∀j,j<k→n≤t/2^j)(hstop:k=32∨ ¬n≤t/2^k):lvC n t 32=k:=by
 have h1:=q2V n t 32
 rcases Nat.lt_trichotomy (lvC n t 32) k with h|h|h
 · have:=(q19 n t 32 (lvC n t 32) (by omega)).2 (hall _ h)
   omega
 · exact h
 · rcases hstop with h2|h2
   · omega
   · exact absurd ((q19 n t 32 k (by omega)).1 h) h2
theorem q65(a b:Nat)(ha:a<4294967296)(hb:b<4294967296):bits .and .u32 (a:Int) (b:Int)=((a&&& b:Nat):Int):=by
 have hx:a&&& b<2^32:=Nat.and_lt_two_pow _ (by omega)
 have h1:(BitVec.ofInt 32 (a:Int)).toNat=a:=by
  rw[BitVec.ofInt_natCast,BitVec.toNat_ofNat];exact Nat.mod_eq_of_lt (by omega)
 have h2:(BitVec.ofInt 32 (b:Int)).toNat=b:=by
  rw[BitVec.ofInt_natCast,BitVec.toNat_ofNat];exact Nat.mod_eq_of_lt (by omega)
 show IntKind.u32.wrap ((BitVec.ofInt 32 (a:Int) &&& BitVec.ofInt 32 (b:Int)).toNat:Int)=_
 rw[BitVec.toNat_and,h1,h2]
 simp only[IntKind.wrap,IntKind.bits,IntKind.signed]
 simp
 omega
theorem x35(b:Nat)(hb:b<4294967296):bits .and .u32 (b:Int) 16777215=((b % 16777216:Nat):Int):=by
 have h:=q65 b 16777215 hb (by omega)
 rw[show (16777215:Nat)=2^24- 1 by decide,Nat.and_two_pow_sub_one_eq_mod]at h
 exact h
theorem q6n(b E M:Nat)(w:World)(hE:(b:Int) /16777216=(E:Int))(hM:bits .and .u32 (b:Int) 16777215=(M:Int))(hb:b<4294967296)(h: ¬(3≤E∧E≤32∧32768≤M∧M≤8388607)):
   Rz 72 #[.int .u32 b] w (.tuple #[.agg (wcs 0), .bool false]):=by
 unfold Rz
 go_enter func72,ntmps72
 by_cases h1:(3:Int)≤(E:Int)
 · by_cases h2:(E:Int)≤32
   · by_cases h3:(32768:Int)≤(M:Int)
     · have h4: ¬(M:Int)≤8388607:=by omega
       go_wp2
       go_returns
       exact⟨rfl,by go_grown⟩
     · go_wp2
       go_returns
       exact⟨rfl,by go_grown⟩
   · go_wp2
     go_returns
     exact⟨rfl,by go_grown⟩
 · go_wp2
   go_returns
   exact⟨rfl,by go_grown⟩
theorem q5q(b E M:Nat)(w:World)(hE:(b:Int) /16777216=(E:Int))(hM:bits .and .u32 (b:Int) 16777215=(M:Int))(hb:b<4294967296)(h1:3≤E)(h2:E≤32)(h3:32768≤M)(h4:M≤8388607):
  Rz 72 #[.int .u32 b] w (.tuple #[.agg (wcs (M*2^ (8*(E- 3)) % Big)), .bool true]):=by
 unfold Rz
 have HU:Hid (∀u,Calls Tryz.prog 118 #[.agg (wcs M), .int .i64 (8*((E:Int) - 3))] u fun e w'=>e= .returned (.agg (wcs (M*2^ (8*(E- 3)) % Big)))∧Below u.heap.size u w'):=fun u=>by
  have h9:=x4P M (8*((E:Int) - 3)) u (q53 (by omega)) (by omega)
  have e9:upV M (8*((E:Int) - 3))=M*2^ (8*(E- 3)) % Big:=by
   unfold upV aUp
   rw[if_neg (by omega),show (8*((E:Int) - 3)).toNat=8*(E- 3)by omega]
  rw[e9]at h9
  exact h9
 generalize M*2^ (8*(E- 3)) % Big=N at *
 have z0:Hid (Row (w.alloc (.cells #[.int .u64 0, .int .u64 0, .int .u64 0, .int .u64 0] 32)) w.heap.size 32 #[.int .u64 0, .int .u64 0, .int .u64 0, .int .u64 0]):=Row.new w 32 _
 have B0:Hid (Below w.heap.size w (w.alloc (.cells #[.int .u64 0, .int .u64 0, .int .u64 0, .int .u64 0] 32))):=(Below.refl _ _).alloc (Nat.le_refl _) _
 go_enter func72,ntmps72
 go_wp2_with fail
 generalize w.alloc (.cells #[.int .u64 0, .int .u64 0, .int .u64 0, .int .u64 0] 32)=w0 at *
 refine(x4J M w0 (by omega)).mono ?_
 rintro e w1 ⟨rfl,hb1⟩
 have z1:=hD (z0.out.below hb1 z0.out.lt)
 have B1:=hD (B0.out.trans (hb1.mono B0.out.size))
 clear z0 B0 hb1
 go_wp2_with fail
 refine(HU.out w1).mono ?_
 rintro e w2 ⟨rfl,hb2⟩
 have z2:Hid (w2.heap[w.heap.size]?=some (.cells #[.int .u64 0, .int .u64 0, .int .u64 0, .int .u64 0] 32 (0,0))):=z1.out.below hb2 z1.out.lt
 have B2:=hD (B1.out.trans (hb2.mono B1.out.size))
 have hsz:=hD (j0s N)
 have ho:=hD (j1v N)
 clear z1 B1 hb2 HU
 generalize hc:wcs N=cs at *
 have HC:=hD hc
 clear hc
 go_wp2_with (first
  |((with_reducible refine wpList_store_row (o:=⟨none, .store 32 _ _,_,_,_,_⟩) ?_ 32 (.tmp 2) (.tmp 32) ?_ w.heap.size cs ?_ ?_ 32 _ z2.out (j3V cs hsz.out) ?_ ho.out ?_);(rfl);(rfl);(rfl);(rfl);(rw[hsz.out];rfl))
  |((with_reducible refine bodyPost_ret (v:= .tuple #[.agg cs, .bool true]) ?_ ?_ ?_);(exact j0v (p:=2) (q:=3) (ty:=32) results72 _ _ w.heap.size 32 cs (0,0) _ rfl _ rfl (setRow_heap _ _ _ cs 32 (0,0) z2.out) underlying32 rfl (j3V cs hsz.out));(rfl)))
 exact⟨by rw[HC.out],j0G B2.out (Nat.le_refl _) _⟩
theorem j2E(b:Nat)(w:World)(hb:b<4294967296):
   Rz 72 #[.int .u32 b] w (.tuple #[.agg (wcs (tv b)), .bool (isC b)]):=by
 unfold Rz
 by_cases h:3≤b/16777216∧b/16777216≤32∧32768≤b % 16777216∧b % 16777216≤8388607
 · have h9:=q5q b (b/16777216) (b % 16777216) w (by omega) (x35 b hb) hb h.1 h.2.1 h.2.2.1 h.2.2.2
   rw[Nat.mod_eq_of_lt (x30 b h)]at h9
   have e1:isC b=true:=decide_eq_true h
   have e2:tv b=b % 16777216*2^ (8*(b/16777216- 3)):=by unfold tv;rw[if_pos e1]
   rw[e1,e2]
   exact h9
 · have h9:=q6n b (b/16777216) (b % 16777216) w (by omega) (x35 b hb) hb h
   have e1:isC b=false:=decide_eq_false h
   have e2:tv b=0:=by unfold tv;rw[e1];rfl
   rw[e1,e2]
   exact h9
theorem q9R:wcs 0= #[.int .u64 0, .int .u64 0, .int .u64 0, .int .u64 0]:=rfl
theorem j2J{dst:Option Tmp}{ty:TypeId}{pos:String}{after:Array Edge}{gd:Option (Nat × Bool)}(a:Act):j3r Tryz.prog ⟨dst, .alloc 32,ty,pos,after,gd⟩ a (wo 0):=fun u=>by
 have h:=q9R
 unfold wo
 rw[h]
 go_simp
theorem j4O{P:Program}{a:Act}{w:World}{Q:Exit→Act→World→Prop}{c rest:Code}(l:Nat)(J:Act→World→Prop)(μ:Act→World→Nat)(hf:findLabel c l=some (Code.skip.seq rest))
  (pass: ∀a w,J a w→rest.wp P (Exit.jump l (fun a' w'=>J a' w'∧μ a' w'<μ a w) Q) a w)
  (first:(∀a w,J a w→rest.wp P (Exit.jump l J Q) a w)→c.wp P (Exit.jump l J Q) a w):(Code.scope c).wp P Q a w:=
 wp_scope_jumps l J μ hf (first fun a w h=>wp_mono (pass a w h) (fun e a w he=>by cases e<;>first|exact he|exact⟨he.1,he.2.1⟩)) (fun a w h=>wp_seq (wp_skip (pass a w h)))
theorem q66{k:IntKind}{a b:Int}(h:a=b):Ending.returned (.int k a)= .returned (.int k b):=by rw[h]
theorem x2e{m n:Nat}(h:m<n):j9J m n= -1:=by unfold j9J;rw[if_pos h]
theorem x1L(m:Nat):j9J m m=0:=by unfold j9J;simp
theorem x3f{m n:Nat}(h:n<m):j9J m n=1:=by unfold j9J;rw[if_neg (by omega),if_neg (by omega)]
theorem x0i(m n:Nat):(j9J m n<0↔m<n)∧(j9J m n≤0↔m≤n)∧(0<j9J m n↔n<m)∧(0≤j9J m n↔n≤m):=by
 rcases Nat.lt_trichotomy m n with h|h|h
 · rw[x2e h];omega
 · subst h;rw[x1L];omega
 · rw[x3f h];omega
theorem x1p:1000000000000<Big:=by unfold Big;omega
theorem x2l(m n s:Nat)(u:World)(hs:s=m+n)(h:s<Big):
  Calls Tryz.prog 165 #[.agg (wcs m), .agg (wcs n)] u fun e w'=>e= .returned (.tuple #[.agg (wcs s), .bool true])∧Below u.heap.size u w':=by
 subst hs
 have h1:=j9G m n u (by omega) (by omega)
 have e1:decide (m+n<Big)=true:=by simp only[h,decide_true]
 rw[Nat.mod_eq_of_lt h,e1]at h1
 exact h1
theorem x3P(m n s:Nat)(u:World)(hm:m<Big)(hn:n<Big)(hs:s=m+n- Big)(h:Big≤m+n):
  Calls Tryz.prog 165 #[.agg (wcs m), .agg (wcs n)] u fun e w'=>e= .returned (.tuple #[.agg (wcs s), .bool false])∧Below u.heap.size u w':=by
 rw[hs]
 have h1:=j9G m n u hm hn
 have e1:decide (m+n<Big)=false:=by simp only[show¬m+n<Big by omega,decide_false]
 rw[e1,show (m+n) % Big=m+n- Big by rw[Nat.mod_eq_sub_mod h];exact Nat.mod_eq_of_lt (by omega)]at h1
 exact h1
theorem x2r(n r:Nat)(u:World)(hn:0<n)(hB:n<Big)(hr:r=Big- n):
  Calls Tryz.prog 177 #[.agg (wcs 0), .agg (wcs n)] u fun e w'=>e= .returned (.tuple #[.agg (wcs r), .bool false])∧Below u.heap.size u w':=by
 rw[hr]
 have h1:=q2n 0 n u j7x hB
 have e1:decide (n≤0)=false:=by simp only[show¬n≤0 by omega,decide_false]
 have e2:(0+(Big- n)) % Big=Big- n:=by rw[Nat.zero_add];exact Nat.mod_eq_of_lt (by omega)
 rw[e1,e2]at h1
 exact h1
theorem x2R(t:Nat)(w:World)(ht:t+1=Big):
  Calls Tryz.prog 161 #[.agg (wcs t)] w fun e w'=>e= .returned (.agg (wcs 1))∧Below w.heap.size w w':=by
 have H1:=hD x1p
 have E1:Hid (EnvX w ((w.alloc (.cells (wcs t) 32)).alloc (.cells #[.int .u64 0, .int .u64 0, .int .u64 0, .int .u64 0] 32)) [(w.heap.size+1,wo 0),(w.heap.size,wo t)]):=(EnvX.start w).two (wo t) (wo 0)
 have hb1:w.heap.size≤w.heap.size:=Nat.le_refl _
 have hb2:w.heap.size≤w.heap.size+1:=Nat.le_succ _
 have n21:Hid (w.heap.size+1≠w.heap.size):=by show _≠_;omega
 go_enter func161,ntmps161
 go_upto_region 1 with (fail)
 generalize (w.alloc (.cells (wcs t) 32)).alloc (.cells #[.int .u64 0, .int .u64 0, .int .u64 0, .int .u64 0] 32)=w1 at *
 refine j1z (w0:=w) [0] [1,2] [(w.heap.size+1,(wo (0))),(w.heap.size,(wo (t)))] rfl E1.out ?_
 have hone:= @EnvC.one _ _ _ (E1.out)
 (refine j23 (f:=119) (args:= #[.int .u64 (1:Nat)]) (v:= .agg (wcs (1))) rfl rfl rfl func119 rfl rfl (fun u _=>x4J 1 u (by decide)) ?_ (E1.out);intro K hK;go_big_quiet_op;go_big_quiet_on)
 clear hone
 refine j0b ?_
 (refine(j4c (wo (0)) rfl (j2J _) ?_);intro g1 hbg1 hfg1;intro K' hK';go_big_quiet_op;go_big_quiet_on)
 have ng1x0:Hid (w.heap.size+1≠g1):=hfg1 (w.heap.size+1,_) mH
 have ng1x1:Hid (w.heap.size≠g1):=hfg1 (w.heap.size,_) (mT mH)
 clear hfg1
 refine(j2l rfl (g1) (wcs (1)) rfl rfl hbg1 32 (wcs (0)) mH (j0w _) ((j0s _).trans (j0s _).symm) (j1v _) [(g1,(wo (1))),(w.heap.size+1,(wo (0))),(w.heap.size,(wo (t)))] (mA ⟨.inl rfl,(mA ⟨.inr ⟨(mT mH),ng1x0.out⟩,(mA ⟨.inr ⟨(mT (mT mH)),ng1x1.out⟩,(fun _ h=>by cases h)⟩)⟩)⟩) ?_)
 rintro u3 ⟨hl2,E2'⟩
 have E2:=hD E2'
 clear hl2 E2' E1
 go_upto_region 2 with (fail)
 refine j1z (w0:=w) [0,1,2,3,4,5] [6,7,8] [(g1,(wo (1))),(w.heap.size+1,(wo (0))),(w.heap.size,(wo (t)))] rfl E2.out ?_
 have hone:= @EnvC.one _ _ _ (E2.out)
 (refine j2f rfl rfl (w.heap.size) rfl 32 _ _ (fun u hu=>EnvC.box hu _ (wo (t)) (mT (mT mH))) underlying32 rfl (j0w _) ?_ (E2.out);intro K hK;go_big_quiet_op;go_big_quiet_on)
 (refine j2f rfl rfl (g1) rfl 32 _ _ (fun u hu=>EnvC.box hu _ (wo (1)) mH) underlying32 rfl (j0w _) ?_ (E2.out);intro K hK;go_big_quiet_op;go_big_quiet_on)
 (refine j23 (f:=165) (args:= #[.agg (wcs (t)), .agg (wcs (1))]) (v:= .tuple #[.agg (wcs (0)), .bool (false)]) rfl rfl rfl func165 rfl rfl (fun u _=>x3P t 1 0 u (by omega) (by have:=H1.out;omega) (by omega) (by omega)) ?_ (E2.out);intro K hK;go_big_quiet_op;go_big_quiet_on)
 iterate 3 (refine j4E rfl rfl rfl ?_;intro K hK;go_big_quiet_op;go_big_quiet_on)
 clear hone
 refine j0b ?_
 (refine(j4c (wo (0)) rfl (j2J _) ?_);intro g4 hbg4 hfg4;intro K' hK';go_big_quiet_op;go_big_quiet_on)
 have ng4x0:Hid (g1≠g4):=hfg4 (g1,_) mH
 have ng4x1:Hid (w.heap.size+1≠g4):=hfg4 (w.heap.size+1,_) (mT mH)
 have ng4x2:Hid (w.heap.size≠g4):=hfg4 (w.heap.size,_) (mT (mT mH))
 clear hfg4
 refine(j2l rfl (g4) (wcs (0)) rfl rfl hbg4 32 (wcs (0)) mH (j0w _) ((j0s _).trans (j0s _).symm) (j1v _) [(g4,(wo (0))),(g1,(wo (1))),(w.heap.size+1,(wo (0))),(w.heap.size,(wo (t)))] (mA ⟨.inl rfl,(mA ⟨.inr ⟨(mT mH),ng4x0.out⟩,(mA ⟨.inr ⟨(mT (mT mH)),ng4x1.out⟩,(mA ⟨.inr ⟨(mT (mT (mT mH))),ng4x2.out⟩,(fun _ h=>by cases h)⟩)⟩)⟩)⟩) ?_)
 (refine(j5L rfl rfl ?_);intro K' hK';go_big_quiet_op;go_big_quiet_on)
 rintro u6 ⟨hl2,E2'⟩
 have E5:=hD E2'
 clear hl2 E2' E2
 go_upto_region 4 with (fail)
 refine j1z (w0:=w) [0] [1] [(g4,(wo (0))),(g1,(wo (1))),(w.heap.size+1,(wo (0))),(w.heap.size,(wo (t)))] rfl E5.out ?_
 have hone:= @EnvC.one _ _ _ (E5.out)
 (refine j2f rfl rfl (g1) rfl 32 _ _ (fun u hu=>EnvC.box hu _ (wo (1)) (mT mH)) underlying32 rfl (j0w _) ?_ (E5.out);intro K hK;go_big_quiet_op;go_big_quiet_on)
 clear hone
 refine j0b<|(j2l rfl (w.heap.size+1) (wcs (1)) rfl rfl hb2 32 (wcs (0)) (mT (mT mH)) (j0w _) ((j0s _).trans (j0s _).symm) (j1v _) [(w.heap.size+1,(wo (1))),(g4,(wo (0))),(g1,(wo (1))),(w.heap.size,(wo (t)))] (mA ⟨.inl rfl,(mA ⟨.inr ⟨mH,(Ne.symm ng4x1.out)⟩,(mA ⟨.inr ⟨(mT mH),(Ne.symm ng1x0.out)⟩,(mA ⟨.inr ⟨(mT (mT (mT mH))),(Ne.symm n21.out)⟩,(fun _ h=>by cases h)⟩)⟩)⟩)⟩) ?_)
 rintro u8 ⟨hl2,E2'⟩
 have E7:=hD E2'
 clear hl2 E2' E5
 go_wp2_with ((with_reducible refine bodyPost_ret (v:= .agg (wcs (1))) ?_ ?_ ?_);(exact results_cell_row (p:=2) (ty:=32) results161 _ _ (w.heap.size+1) 32 (wcs (1)) (0,0) _ rfl (E7.out.box _ (wo (1)) mH) underlying32 rfl (j0w _));(rfl))
 exact E7.out.bel
theorem x0N(t:Nat)(w:World)(n r k:Nat)(kb:Bool)(hn:Hid (n=t+1))(hnB:Hid (n<Big))(hn0:Hid (0<n))(hr:Hid (r=Big- n))(hrB:Hid (r<Big))(hqB:Hid (r/n<Big))(hk:Hid ((r/n+1) % Big=k))(hkb:Hid (decide (r/n+1<Big)=kb)):
  Calls Tryz.prog 161 #[.agg (wcs t)] w fun e w'=>e= .returned (.agg (wcs k))∧Below w.heap.size w w':=by
 have H1:=hD x1p
 have E1:Hid (EnvX w ((w.alloc (.cells (wcs t) 32)).alloc (.cells #[.int .u64 0, .int .u64 0, .int .u64 0, .int .u64 0] 32)) [(w.heap.size+1,wo 0),(w.heap.size,wo t)]):=(EnvX.start w).two (wo t) (wo 0)
 have hb1:w.heap.size≤w.heap.size:=Nat.le_refl _
 have hb2:w.heap.size≤w.heap.size+1:=Nat.le_succ _
 have n21:Hid (w.heap.size+1≠w.heap.size):=by show _≠_;omega
 go_enter func161,ntmps161
 go_upto_region 1 with (fail)
 generalize (w.alloc (.cells (wcs t) 32)).alloc (.cells #[.int .u64 0, .int .u64 0, .int .u64 0, .int .u64 0] 32)=w1 at *
 refine j1z (w0:=w) [0] [1,2] [(w.heap.size+1,(wo (0))),(w.heap.size,(wo (t)))] rfl E1.out ?_
 have hone:= @EnvC.one _ _ _ (E1.out)
 (refine j23 (f:=119) (args:= #[.int .u64 (1:Nat)]) (v:= .agg (wcs (1))) rfl rfl rfl func119 rfl rfl (fun u _=>x4J 1 u (by decide)) ?_ (E1.out);intro K hK;go_big_quiet_op;go_big_quiet_on)
 clear hone
 refine j0b ?_
 (refine(j4c (wo (0)) rfl (j2J _) ?_);intro g1 hbg1 hfg1;intro K' hK';go_big_quiet_op;go_big_quiet_on)
 have ng1x0:Hid (w.heap.size+1≠g1):=hfg1 (w.heap.size+1,_) mH
 have ng1x1:Hid (w.heap.size≠g1):=hfg1 (w.heap.size,_) (mT mH)
 clear hfg1
 refine(j2l rfl (g1) (wcs (1)) rfl rfl hbg1 32 (wcs (0)) mH (j0w _) ((j0s _).trans (j0s _).symm) (j1v _) [(g1,(wo (1))),(w.heap.size+1,(wo (0))),(w.heap.size,(wo (t)))] (mA ⟨.inl rfl,(mA ⟨.inr ⟨(mT mH),ng1x0.out⟩,(mA ⟨.inr ⟨(mT (mT mH)),ng1x1.out⟩,(fun _ h=>by cases h)⟩)⟩)⟩) ?_)
 rintro u3 ⟨hl2,E2'⟩
 have E2:=hD E2'
 clear hl2 E2' E1
 go_upto_region 2 with (fail)
 refine j1z (w0:=w) [0,1,2,3,4,5] [6,7,8] [(g1,(wo (1))),(w.heap.size+1,(wo (0))),(w.heap.size,(wo (t)))] rfl E2.out ?_
 have hone:= @EnvC.one _ _ _ (E2.out)
 (refine j2f rfl rfl (w.heap.size) rfl 32 _ _ (fun u hu=>EnvC.box hu _ (wo (t)) (mT (mT mH))) underlying32 rfl (j0w _) ?_ (E2.out);intro K hK;go_big_quiet_op;go_big_quiet_on)
 (refine j2f rfl rfl (g1) rfl 32 _ _ (fun u hu=>EnvC.box hu _ (wo (1)) mH) underlying32 rfl (j0w _) ?_ (E2.out);intro K hK;go_big_quiet_op;go_big_quiet_on)
 (refine j23 (f:=165) (args:= #[.agg (wcs (t)), .agg (wcs (1))]) (v:= .tuple #[.agg (wcs (n)), .bool (true)]) rfl rfl rfl func165 rfl rfl (fun u _=>x2l t 1 n u hn.out (by have:=hnB.out;omega)) ?_ (E2.out);intro K hK;go_big_quiet_op;go_big_quiet_on)
 iterate 3 (refine j4E rfl rfl rfl ?_;intro K hK;go_big_quiet_op;go_big_quiet_on)
 clear hone
 refine j0b ?_
 (refine(j4c (wo (0)) rfl (j2J _) ?_);intro g4 hbg4 hfg4;intro K' hK';go_big_quiet_op;go_big_quiet_on)
 have ng4x0:Hid (g1≠g4):=hfg4 (g1,_) mH
 have ng4x1:Hid (w.heap.size+1≠g4):=hfg4 (w.heap.size+1,_) (mT mH)
 have ng4x2:Hid (w.heap.size≠g4):=hfg4 (w.heap.size,_) (mT (mT mH))
 clear hfg4
 refine(j2l rfl (g4) (wcs (n)) rfl rfl hbg4 32 (wcs (0)) mH (j0w _) ((j0s _).trans (j0s _).symm) (j1v _) [(g4,(wo (n))),(g1,(wo (1))),(w.heap.size+1,(wo (0))),(w.heap.size,(wo (t)))] (mA ⟨.inl rfl,(mA ⟨.inr ⟨(mT mH),ng4x0.out⟩,(mA ⟨.inr ⟨(mT (mT mH)),ng4x1.out⟩,(mA ⟨.inr ⟨(mT (mT (mT mH))),ng4x2.out⟩,(fun _ h=>by cases h)⟩)⟩)⟩)⟩) ?_)
 (refine(j5L rfl rfl ?_);intro K' hK';go_big_quiet_op;go_big_quiet_on)
 rintro u6 ⟨hl2,E2'⟩
 have E5:=hD E2'
 clear hl2 E2' E2
 go_upto_region 5 with (fail)
 refine j1z (w0:=w) [0,1,2,3,4,5] [6,7,8] [(g4,(wo (n))),(g1,(wo (1))),(w.heap.size+1,(wo (0))),(w.heap.size,(wo (t)))] rfl E5.out ?_
 have hone:= @EnvC.one _ _ _ (E5.out)
 (refine j4E rfl rfl rfl ?_;intro K hK;go_big_quiet_op;go_big_quiet_on)
 (refine j2f rfl rfl (g4) rfl 32 _ _ (fun u hu=>EnvC.box hu _ (wo (n)) mH) underlying32 rfl (j0w _) ?_ (E5.out);intro K hK;go_big_quiet_op;go_big_quiet_on)
 (refine j23 (f:=177) (args:= #[.agg (wcs (0)), .agg (wcs (n))]) (v:= .tuple #[.agg (wcs (r)), .bool (false)]) rfl rfl rfl func177 rfl rfl (fun u _=>x2r n r u hn0.out hnB.out hr.out) ?_ (E5.out);intro K hK;go_big_quiet_op;go_big_quiet_on)
 iterate 3 (refine j4E rfl rfl rfl ?_;intro K hK;go_big_quiet_op;go_big_quiet_on)
 clear hone
 refine j0b ?_
 (refine(j4c (wo (0)) rfl (j2J _) ?_);intro g7 hbg7 hfg7;intro K' hK';go_big_quiet_op;go_big_quiet_on)
 have ng7x0:Hid (g4≠g7):=hfg7 (g4,_) mH
 have ng7x1:Hid (g1≠g7):=hfg7 (g1,_) (mT mH)
 have ng7x2:Hid (w.heap.size+1≠g7):=hfg7 (w.heap.size+1,_) (mT (mT mH))
 have ng7x3:Hid (w.heap.size≠g7):=hfg7 (w.heap.size,_) (mT (mT (mT mH)))
 clear hfg7
 refine(j2l rfl (g7) (wcs (r)) rfl rfl hbg7 32 (wcs (0)) mH (j0w _) ((j0s _).trans (j0s _).symm) (j1v _) [(g7,(wo (r))),(g4,(wo (n))),(g1,(wo (1))),(w.heap.size+1,(wo (0))),(w.heap.size,(wo (t)))] (mA ⟨.inl rfl,(mA ⟨.inr ⟨(mT mH),ng7x0.out⟩,(mA ⟨.inr ⟨(mT (mT mH)),ng7x1.out⟩,(mA ⟨.inr ⟨(mT (mT (mT mH))),ng7x2.out⟩,(mA ⟨.inr ⟨(mT (mT (mT (mT mH)))),ng7x3.out⟩,(fun _ h=>by cases h)⟩)⟩)⟩)⟩)⟩) ?_)
 (refine(j5L rfl rfl ?_);intro K' hK';go_big_quiet_op;go_big_quiet_on)
 rintro u9 ⟨hl2,E2'⟩
 have E8:=hD E2'
 clear hl2 E2' E5
 go_upto_region 6 with (fail)
 refine j1z (w0:=w) [0,1,2,3,4,5,6] [7,8,9,10,11] [(g7,(wo (r))),(g4,(wo (n))),(g1,(wo (1))),(w.heap.size+1,(wo (0))),(w.heap.size,(wo (t)))] rfl E8.out ?_
 have hone:= @EnvC.one _ _ _ (E8.out)
 (refine j2f rfl rfl (g7) rfl 32 _ _ (fun u hu=>EnvC.box hu _ (wo (r)) mH) underlying32 rfl (j0w _) ?_ (E8.out);intro K hK;go_big_quiet_op;go_big_quiet_on)
 (refine j2f rfl rfl (g4) rfl 32 _ _ (fun u hu=>EnvC.box hu _ (wo (n)) (mT mH)) underlying32 rfl (j0w _) ?_ (E8.out);intro K hK;go_big_quiet_op;go_big_quiet_on)
 (refine j23 (f:=195) (args:= #[.agg (wcs (r)), .agg (wcs (n))]) (v:= .tuple #[.agg (wcs (r/n)), .agg (wcs (r % n)), .bool (true)]) rfl rfl rfl func195 rfl rfl (fun u _=>x2G r n u hrB.out hnB.out hn0.out) ?_ (E8.out);intro K hK;go_big_quiet_op;go_big_quiet_on)
 iterate 4 (refine j4E rfl rfl rfl ?_;intro K hK;go_big_quiet_op;go_big_quiet_on)
 clear hone
 refine j0b ?_
 (refine(j4c (wo (0)) rfl (j2J _) ?_);intro g10 hbg10 hfg10;intro K' hK';go_big_quiet_op;go_big_quiet_on)
 have ng10x0:Hid (g7≠g10):=hfg10 (g7,_) mH
 have ng10x1:Hid (g4≠g10):=hfg10 (g4,_) (mT mH)
 have ng10x2:Hid (g1≠g10):=hfg10 (g1,_) (mT (mT mH))
 have ng10x3:Hid (w.heap.size+1≠g10):=hfg10 (w.heap.size+1,_) (mT (mT (mT mH)))
 have ng10x4:Hid (w.heap.size≠g10):=hfg10 (w.heap.size,_) (mT (mT (mT (mT mH))))
 clear hfg10
 (refine(j4c (wo (0)) rfl (j2J _) ?_);intro g11 hbg11 hfg11;intro K' hK';go_big_quiet_op;go_big_quiet_on)
 have ng11x5:Hid (g10≠g11):=hfg11 (g10,_) mH
 have ng11x6:Hid (g7≠g11):=hfg11 (g7,_) (mT mH)
 have ng11x7:Hid (g4≠g11):=hfg11 (g4,_) (mT (mT mH))
 have ng11x8:Hid (g1≠g11):=hfg11 (g1,_) (mT (mT (mT mH)))
 have ng11x9:Hid (w.heap.size+1≠g11):=hfg11 (w.heap.size+1,_) (mT (mT (mT (mT mH))))
 have ng11x10:Hid (w.heap.size≠g11):=hfg11 (w.heap.size,_) (mT (mT (mT (mT (mT mH)))))
 clear hfg11
 refine(j2l rfl (g10) (wcs (r/n)) rfl rfl hbg10 32 (wcs (0)) (mT mH) (j0w _) ((j0s _).trans (j0s _).symm) (j1v _) [(g10,(wo (r/n))),(g11,(wo (0))),(g7,(wo (r))),(g4,(wo (n))),(g1,(wo (1))),(w.heap.size+1,(wo (0))),(w.heap.size,(wo (t)))] (mA ⟨.inl rfl,(mA ⟨.inr ⟨mH,(Ne.symm ng11x5.out)⟩,(mA ⟨.inr ⟨(mT (mT mH)),ng10x0.out⟩,(mA ⟨.inr ⟨(mT (mT (mT mH))),ng10x1.out⟩,(mA ⟨.inr ⟨(mT (mT (mT (mT mH)))),ng10x2.out⟩,(mA ⟨.inr ⟨(mT (mT (mT (mT (mT mH))))),ng10x3.out⟩,(mA ⟨.inr ⟨(mT (mT (mT (mT (mT (mT mH)))))),ng10x4.out⟩,(fun _ h=>by cases h)⟩)⟩)⟩)⟩)⟩)⟩)⟩) ?_)
 refine(j2l rfl (g11) (wcs (r % n)) rfl rfl hbg11 32 (wcs (0)) (mT mH) (j0w _) ((j0s _).trans (j0s _).symm) (j1v _) [(g11,(wo (r % n))),(g10,(wo (r/n))),(g7,(wo (r))),(g4,(wo (n))),(g1,(wo (1))),(w.heap.size+1,(wo (0))),(w.heap.size,(wo (t)))] (mA ⟨.inl rfl,(mA ⟨.inr ⟨mH,ng11x5.out⟩,(mA ⟨.inr ⟨(mT (mT mH)),ng11x6.out⟩,(mA ⟨.inr ⟨(mT (mT (mT mH))),ng11x7.out⟩,(mA ⟨.inr ⟨(mT (mT (mT (mT mH)))),ng11x8.out⟩,(mA ⟨.inr ⟨(mT (mT (mT (mT (mT mH))))),ng11x9.out⟩,(mA ⟨.inr ⟨(mT (mT (mT (mT (mT (mT mH)))))),ng11x10.out⟩,(fun _ h=>by cases h)⟩)⟩)⟩)⟩)⟩)⟩)⟩) ?_)
 (refine(j5L rfl rfl ?_);intro K' hK';go_big_quiet_op;go_big_quiet_on)
 rintro u13 ⟨hl2,E2'⟩
 have E12:=hD E2'
 clear hl2 E2' E8
 go_upto_region 7 with (fail)
 refine j1z (w0:=w) [0,1,2,3,4,5] [6,7,8] [(g11,(wo (r % n))),(g10,(wo (r/n))),(g7,(wo (r))),(g4,(wo (n))),(g1,(wo (1))),(w.heap.size+1,(wo (0))),(w.heap.size,(wo (t)))] rfl E12.out ?_
 have hone:= @EnvC.one _ _ _ (E12.out)
 (refine j2f rfl rfl (g10) rfl 32 _ _ (fun u hu=>EnvC.box hu _ (wo (r/n)) (mT mH)) underlying32 rfl (j0w _) ?_ (E12.out);intro K hK;go_big_quiet_op;go_big_quiet_on)
 (refine j2f rfl rfl (g1) rfl 32 _ _ (fun u hu=>EnvC.box hu _ (wo (1)) (mT (mT (mT (mT mH))))) underlying32 rfl (j0w _) ?_ (E12.out);intro K hK;go_big_quiet_op;go_big_quiet_on)
 (refine j23 (f:=165) (args:= #[.agg (wcs (r/n)), .agg (wcs (1))]) (v:= .tuple #[.agg (wcs (k)), .bool (kb)]) rfl rfl rfl func165 rfl rfl (fun u _=>by have h:=j9G (r/n) 1 u hqB.out (by have:=H1.out;omega);rw[hk.out,hkb.out]at h;exact h) ?_ (E12.out);intro K hK;go_big_quiet_op;go_big_quiet_on)
 iterate 3 (refine j4E rfl rfl rfl ?_;intro K hK;go_big_quiet_op;go_big_quiet_on)
 clear hone
 refine j0b ?_
 (refine(j4c (wo (0)) rfl (j2J _) ?_);intro g14 hbg14 hfg14;intro K' hK';go_big_quiet_op;go_big_quiet_on)
 have ng14x0:Hid (g11≠g14):=hfg14 (g11,_) mH
 have ng14x1:Hid (g10≠g14):=hfg14 (g10,_) (mT mH)
 have ng14x2:Hid (g7≠g14):=hfg14 (g7,_) (mT (mT mH))
 have ng14x3:Hid (g4≠g14):=hfg14 (g4,_) (mT (mT (mT mH)))
 have ng14x4:Hid (g1≠g14):=hfg14 (g1,_) (mT (mT (mT (mT mH))))
 have ng14x5:Hid (w.heap.size+1≠g14):=hfg14 (w.heap.size+1,_) (mT (mT (mT (mT (mT mH)))))
 have ng14x6:Hid (w.heap.size≠g14):=hfg14 (w.heap.size,_) (mT (mT (mT (mT (mT (mT mH))))))
 clear hfg14
 refine(j2l rfl (g14) (wcs (k)) rfl rfl hbg14 32 (wcs (0)) mH (j0w _) ((j0s _).trans (j0s _).symm) (j1v _) [(g14,(wo (k))),(g11,(wo (r % n))),(g10,(wo (r/n))),(g7,(wo (r))),(g4,(wo (n))),(g1,(wo (1))),(w.heap.size+1,(wo (0))),(w.heap.size,(wo (t)))] (mA ⟨.inl rfl,(mA ⟨.inr ⟨(mT mH),ng14x0.out⟩,(mA ⟨.inr ⟨(mT (mT mH)),ng14x1.out⟩,(mA ⟨.inr ⟨(mT (mT (mT mH))),ng14x2.out⟩,(mA ⟨.inr ⟨(mT (mT (mT (mT mH)))),ng14x3.out⟩,(mA ⟨.inr ⟨(mT (mT (mT (mT (mT mH))))),ng14x4.out⟩,(mA ⟨.inr ⟨(mT (mT (mT (mT (mT (mT mH)))))),ng14x5.out⟩,(mA ⟨.inr ⟨(mT (mT (mT (mT (mT (mT (mT mH))))))),ng14x6.out⟩,(fun _ h=>by cases h)⟩)⟩)⟩)⟩)⟩)⟩)⟩)⟩) ?_)
 (refine(j5L rfl rfl ?_);intro K' hK';go_big_quiet_op;go_big_quiet_on)
 rintro u16 ⟨hl2,E2'⟩
 have E15:=hD E2'
 clear hl2 E2' E12
 go_upto_region 8 with (fail)
 refine j1z (w0:=w) [0] [1] [(g14,(wo (k))),(g11,(wo (r % n))),(g10,(wo (r/n))),(g7,(wo (r))),(g4,(wo (n))),(g1,(wo (1))),(w.heap.size+1,(wo (0))),(w.heap.size,(wo (t)))] rfl E15.out ?_
 have hone:= @EnvC.one _ _ _ (E15.out)
 (refine j2f rfl rfl (g14) rfl 32 _ _ (fun u hu=>EnvC.box hu _ (wo (k)) mH) underlying32 rfl (j0w _) ?_ (E15.out);intro K hK;go_big_quiet_op;go_big_quiet_on)
 clear hone
 refine j0b<|(j2l rfl (w.heap.size+1) (wcs (k)) rfl rfl hb2 32 (wcs (0)) (mT (mT (mT (mT (mT (mT mH)))))) (j0w _) ((j0s _).trans (j0s _).symm) (j1v _) [(w.heap.size+1,(wo (k))),(g14,(wo (k))),(g11,(wo (r % n))),(g10,(wo (r/n))),(g7,(wo (r))),(g4,(wo (n))),(g1,(wo (1))),(w.heap.size,(wo (t)))] (mA ⟨.inl rfl,(mA ⟨.inr ⟨mH,(Ne.symm ng14x5.out)⟩,(mA ⟨.inr ⟨(mT mH),(Ne.symm ng11x9.out)⟩,(mA ⟨.inr ⟨(mT (mT mH)),(Ne.symm ng10x3.out)⟩,(mA ⟨.inr ⟨(mT (mT (mT mH))),(Ne.symm ng7x2.out)⟩,(mA ⟨.inr ⟨(mT (mT (mT (mT mH)))),(Ne.symm ng4x1.out)⟩,(mA ⟨.inr ⟨(mT (mT (mT (mT (mT mH))))),(Ne.symm ng1x0.out)⟩,(mA ⟨.inr ⟨(mT (mT (mT (mT (mT (mT (mT mH))))))),(Ne.symm n21.out)⟩,(fun _ h=>by cases h)⟩)⟩)⟩)⟩)⟩)⟩)⟩)⟩) ?_)
 rintro u18 ⟨hl2,E2'⟩
 have E17:=hD E2'
 clear hl2 E2' E15
 go_wp2_with ((with_reducible refine bodyPost_ret (v:= .agg (wcs (k))) ?_ ?_ ?_);(exact results_cell_row (p:=2) (ty:=32) results161 _ _ (w.heap.size+1) 32 (wcs (k)) (0,0) _ rfl (E17.out.box _ (wo (k)) mH) underlying32 rfl (j0w _));(rfl))
 exact E17.out.bel
theorem q26(t:Nat)(w:World)(ht:t<Big):
   Rz 161 #[.agg (wcs t)] w (.agg (wcs (wkV t))):=by
 unfold Rz
 by_cases h:t+1<Big
 · have h1:=x2j h
   refine x0N t w (t+1) (Big- (t+1)) (wkV t) _ rfl h (by show _<_;omega) rfl (by show _<_;omega) ?_ h1 rfl
   show _<_
   exact Nat.lt_of_le_of_lt (Nat.div_le_self _ _) (by omega)
 · have e:wkV t=1:=by unfold wkV;rw[if_neg h]
   rw[e]
   exact x2R t w (by omega)
theorem j70(n t k g5 g3:Nat)(b:Bool)(w:World)(hn:Hid (n<Big))(ht:Hid (t<Big))(hk:k≤31)(hb:Hid (decide (n≤t/2^k)=b))(h5:Hid (w.heap[g5]?=some (wo n)))(h3:Hid (w.heap[g3]?=some (wo t))):
  Calls Tryz.prog 121 #[.int .i64 (k:Int), .pointer (some ⟨g5,0,none⟩), .pointer (some ⟨g3,0,none⟩)] w fun e w'=>e= .returned (.bool b)∧Below w.heap.size w w':=by
 have E1:Hid (EnvX w w [(g5,wo n),(g3,wo t)]):=⟨Below.refl _ _,fun g o hm=>by
  rcases List.mem_cons.1 hm with e|hm
  · cases e;exact h5.out
  · cases mS.1 hm;exact h3.out⟩
 clear h5 h3
 have hdB:=hD (Nat.lt_of_le_of_lt (Nat.div_le_self t (2^k)) ht.out)
 have hS:=hD (x0i n (t/2^k)).2.1
 have hdn:Hid (∀u,Calls Tryz.prog 123 #[.agg (wcs t), .int .i64 (k:Int)] u fun e w'=>e= .returned (.agg (wcs (t/2^k)))∧Below u.heap.size u w'):=fun u=>x0q t k u ht.out (by omega)
 generalize t/2^k=d at *
 generalize hc:j9J n d=c at *
 have HC:=hD hc
 clear hc
 go_enter func121,ntmps121
 go_upto_region 1 with (fail)
 refine q10 (w0:=w) [0,1,2,3,4,5,6] [(g5,(wo (n))),(g3,(wo (t)))] 0 (by kernel_rfl) (by kernel_rfl) rfl E1.out ?_
 have hone:= @EnvC.one _ _ _ (E1.out.drew)
 (refine j2f rfl rfl (g5) rfl 32 _ _ (fun u hu=>EnvC.box hu _ (wo (n)) mH) underlying32 rfl (j0w _) ?_ (E1.out.drew);intro K hK;go_big_quiet_op;go_big_quiet_on)
 (refine j2f rfl rfl (g3) rfl 32 _ _ (fun u hu=>EnvC.box hu _ (wo (t)) (mT mH)) underlying32 rfl (j0w _) ?_ (E1.out.drew);intro K hK;go_big_quiet_op;go_big_quiet_on)
 (refine j4E rfl rfl rfl ?_;intro K hK;go_big_quiet_op;go_big_quiet_on)
 (refine j23 (f:=123) (args:= #[.agg (wcs (t)), .int .i64 (k:Int)]) (v:= .agg (wcs (d))) rfl rfl rfl func123 rfl rfl (fun u _=>hdn.out u) ?_ (E1.out.drew);intro K hK;go_big_quiet_op;go_big_quiet_on)
 (refine j23 (f:=122) (args:= #[.agg (wcs (n)), .agg (wcs (d))]) (v:= .int .i64 c) rfl rfl rfl func122 rfl rfl (fun u _=>(by rw[←HC.out];exact x2i n d u hn.out hdB.out)) ?_ (E1.out.drew);intro K hK;go_big_quiet_op;go_big_quiet_on)
 iterate 2 (refine j4E rfl rfl rfl ?_;intro K hK;go_big_quiet_op;go_big_quiet_on)
 clear hone
 refine j0b<|q6P (by kernel_rfl) ?_
 rintro u2 ⟨hl2,E2'⟩
 have EX1:=hD E2'
 clear hl2 E2' E1
 go_wp2_with fail
 go_ret
 refine⟨?_,EX1.out.bel⟩
 rw[←hb.out,show decide (n≤d)=decide (c≤0)by simp only[hS.out]]
 rfl
theorem q7s(f:Nat→Nat)(hf: ∀i,f i<256)(t:Nat)(w:World)(ht:t<Big):
  Rz 74 #[.agg (idF (fun i=>(f i:Int))), .agg (wcs t)] w (.int .i64 (lvI (j6P f) t)):=by
 unfold Rz
 have hN:=hD (x0W f hf)
 have ht':=hD ht
 have HO:Hid (∀u,Calls Tryz.prog 120 #[.agg (idF (fun i=>(f i:Int)))] u fun e w'=>e= .returned (.agg (wcs (j6P f)))∧Below u.heap.size u w'):=fun u=>q9s f hf u
 generalize j6P f=n at *
 have E1:Hid (EnvX w ((w.alloc (.cells (idF (fun i=>(f i:Int))) 26)).alloc (.cells (wcs t) 32)) [(w.heap.size+1,wo t),(w.heap.size,io (fun i=>(f i:Int)))]):=(EnvX.start w).two (io (fun i=>(f i:Int))) (wo t)
 have hb1:w.heap.size≤w.heap.size:=Nat.le_refl _
 have hb2:w.heap.size≤w.heap.size+1:=Nat.le_succ _
 have n21:Hid (w.heap.size+1≠w.heap.size):=by show _≠_;omega
 have hmf: ∀(fn:Fn)(first cap:Array Value)(w:World),(Instr.makeFunc fn first cap).run Tryz.prog w= .ok (.func fn first cap) w:=fun _ _ _ _=>rfl
 go_enter func74,ntmps74
 go_upto_region 1 with (fail)
 generalize (w.alloc (.cells (idF (fun i=>(f i:Int))) 26)).alloc (.cells (wcs t) 32)=w1 at *
 refine j1z (w0:=w) [0,1] [2,3] [(w.heap.size+1,(wo (t))),(w.heap.size,(io (fun i=>(f i:Int))))] rfl E1.out ?_
 have hone:= @EnvC.one _ _ _ (E1.out)
 (refine j2f rfl rfl (w.heap.size) rfl 26 _ _ (fun u hu=>EnvC.box hu _ (io (fun i=>(f i:Int))) (mT mH)) underlying26 rfl (q3T _ (j9l _)) ?_ (E1.out);intro K hK;go_big_quiet_op;go_big_quiet_on)
 refine qc rfl func120 (fun u _=>HO.out u) ⟨_,E1.out⟩ ?_
 clear hone
 refine j0b ?_
 (refine(j4c (wo (0)) rfl (j2J _) ?_);intro g1 hbg1 hfg1;intro K' hK';go_big_quiet_op;go_big_quiet_on)
 have ng1x0:Hid (w.heap.size+1≠g1):=hfg1 (w.heap.size+1,_) mH
 have ng1x1:Hid (w.heap.size≠g1):=hfg1 (w.heap.size,_) (mT mH)
 clear hfg1
 refine(j2l rfl (g1) (wcs (n)) rfl rfl hbg1 32 (wcs (0)) mH (j0w _) ((j0s _).trans (j0s _).symm) (j1v _) [(g1,(wo (n))),(w.heap.size+1,(wo (t))),(w.heap.size,(io (fun i=>(f i:Int))))] (mA ⟨.inl rfl,(mA ⟨.inr ⟨(mT mH),ng1x0.out⟩,(mA ⟨.inr ⟨(mT (mT mH)),ng1x1.out⟩,(fun _ h=>by cases h)⟩)⟩)⟩) ?_)
 rintro u3 ⟨hl2,E2'⟩
 have EX2:=hD E2'
 clear hl2 E2' E1
 have z5:Hid (EX2.out.box g1 _ mH=EX2.out.box g1 _ mH):=rfl
 clear z5
 go_wp2_with fail
 go_loopw [7] (fun l u=> ∃k:Nat,k≤32∧l= .int .i64 ((k:Int) - 1)∧Hid (EnvX w u [(g1,(wo (n))),(w.heap.size+1,(wo (t))),(w.heap.size,(io (fun i=>(f i:Int))))])∧Hid (∀j,j<k→n≤t/2^j)) (fun l _=>(31- intOf l).toNat)
 case atStart=>exact⟨0,by omega,rfl,EX2,fun j hj=>by omega⟩
 case round=>
  obtain⟨k,hk,rfl,hE,hall⟩:=hrel
  clear EX2
  have hk0:(-1:Int)≤(k:Int) - 1:=by omega
  have hk1:(k:Int) - 1≤31:=by omega
  by_cases h31:k<32
  · have h3:(k:Int) - 1<31:=by omega
    by_cases hr:n≤t/2^k
    · go_wp2_with (go_at_call 121;refine(j70 n t k g1 (w.heap.size+1) true _ hN ht' (by omega) (decide_eq_true hr) (hE.out.box g1 _ mH) (hE.out.box (w.heap.size+1) _ (mT mH))).mono ?_;rintro e w' ⟨rfl,hb⟩;have hE2:=hD (hE.out.below hb);clear hb)
      go_roundw
      case rel=>
       refine⟨k+1,by omega,by go_num,by assumption,fun j hj=>?_⟩
       by_cases hjk:j=k
       · subst hjk;exact hr
       · exact hall.out j (by omega)
      case measure=>simp[intOf];omega
    · go_wp2_with (go_at_call 121;refine(j70 n t k g1 (w.heap.size+1) false _ hN ht' (by omega) (decide_eq_false hr) (hE.out.box g1 _ mH) (hE.out.box (w.heap.size+1) _ (mT mH))).mono ?_;rintro e w' ⟨rfl,hb⟩;have hE2:=hD (hE.out.below hb);clear hb)
      go_ret
      exact⟨q66 (by unfold lvI;rw[q3y hk hall.out (.inr hr)]),by have h:=hE2.out.bel;exact h⟩
  · have h3: ¬(k:Int) - 1<31:=by omega
    go_wp2
    go_ret
    exact⟨q66 (by unfold lvI;rw[q3y hk hall.out (.inl (by omega))]),hE.out.bel⟩
structure Hd where
  height:Int
  prev:List Int
  links:List Int
  txs:List Int
  past:List Int
  work:Nat
  bits:Nat
  nonce:Nat
deriving DecidableEq
def j2H:Hd:=⟨0,z32,z32,z32,z32,0,0,0⟩
def okHd(h:Hd):Prop:=I64 h.height∧j3C h.prev∧j3C h.links∧j3C h.txs∧j3C h.past∧h.work<Big∧h.bits<4294967296∧h.nonce<18446744073709551616
def j3c(a:Nat):List Int:=j3J (j1b a)
theorem j5a(a:Nat):(j3c a).length=32:=j2w _
theorem j7o(a:Nat):isB (j3c a):=by
 intro x hx
 unfold j3c j3J at hx
 obtain⟨i,_,rfl⟩:=List.mem_map.1 hx
 have:=q0J a i
 unfold j1b
 omega
def x4u(l:List Int):Nat:=j6P (fun i=>(l.getD i 0).toNat)
def j4o(h:Hd):List Int:=j2O h.height.toNat 4++(h.prev++(h.links++(h.txs++(h.past++(j3c h.work++(j2O h.bits 4++j2O h.nonce 8))))))
def j2V(h:Hd):Bool:=decide (0≤h.height∧h.height≤1048576)
def j9L(h:Hd):List Int × Bool:=if j2V h then (j4o h,true)else ([],false)
def idH(h:Hd):List Int:=if j2V h then j4x (5::j4o h)else z32
def j1g(h:Hd):Int:=if j2V h&& isC h.bits then if h.height=0 then 31 else lvI (x4u (idH h)) (tv h.bits)else-1
def j5c(h:Hd):Nat:=if isC h.bits then wkV (tv h.bits)else 0
def j4U(h:Hd):Bool:=decide (0≤j1g h)
def j0T(h:Hd)(k:Nat):Hd:={h with nonce:=(h.nonce+k) % 18446744073709551616}
def j3x(h:Hd)(tries:Int):Hd × Bool:=match (List.range (min tries 200).toNat).find? (fun k=>j4U (j0T h k))with
  |some k=>(j0T h k,true)
  |none=>(h,false)
theorem j9i{h:Hd}(hh:okHd h):(j4o h).length=176:=by
 obtain⟨_,h1,h2,h3,h4,_,_,_⟩:=hh
 unfold j4o
 simp only[lA,j0S,j5a,h1.1,h2.1,h3.1,h4.1]
theorem q0P{h:Hd}(hh:okHd h):isB (j4o h):=by
 obtain⟨_,h1,h2,h3,h4,_,_,_⟩:=hh
 unfold j4o
 simp only[isB_append]
 exact⟨j2N _ _,h1.2,h2.2,h3.2,h4.2,j7o _,j2N _ _,j2N _ _⟩
def hdC(h:Hd):List Value:=[.int .i64 h.height]++((j0d 32 h.prev).toList++((j0d 32 h.links).toList++((j0d 32 h.txs).toList++((j0d 32 h.past).toList++((wcs h.work).toList++([.int .u32 h.bits]++[.int .u64 h.nonce]))))))
def hdA(h:Hd):Array Value:=(hdC h).toArray
def hdV(h:Hd):Value:= .agg (hdA h)
def j0M(h:Hd):Prop:=h.prev.length=32∧h.links.length=32∧h.txs.length=32∧h.past.length=32
theorem okHd.len{h:Hd}(k:okHd h):j0M h:=⟨k.2.1.1,k.2.2.1.1,k.2.2.2.1.1,k.2.2.2.2.1.1⟩
theorem j2e{h:Hd}(k:j0M h):(hdC h).length=135:=by
 unfold hdC
 simp only[lA,j0g k.1,j0g k.2.1,j0g k.2.2.1,j0g k.2.2.2,j1j,List.length_cons,List.length_nil]
theorem j1r{h:Hd}(k:j0M h):(hdA h).size=135:=by unfold hdA;rw[List.size_toArray,j2e k]
theorem q62(h:Hd): ∀u∈hdC h,u.oneCell'=true:=by
 intro u hu
 unfold hdC at hu
 simp only[List.mem_append,mS]at hu
 rcases hu with rfl|e|e|e|e|e|rfl|rfl
 · rfl
 · exact j2o (j0Q 32 _) u e
 · exact j2o (j0Q 32 _) u e
 · exact j2o (j0Q 32 _) u e
 · exact j2o (j0Q 32 _) u e
 · exact j2o (j1v _) u e
 · rfl
 · rfl
theorem j5r(h:Hd):(hdA h).all (·.oneCell')=true:=by
 rw[Array.all_eq_true]
 intro i hi
 exact q62 h _ (show (hdA h)[i]∈(hdA h).toList from Array.mem_toList_iff.2 (Array.getElem_mem hi))
theorem aggHd:AggT 34 135:=⟨fun w=>by simp[isAgg,run_underlying underlying34],by kernel_rfl⟩
theorem j6N(cs:Array Value)(h:cs.size=135):(Tryz.prog.info? 34).map (·.size)=some cs.size:=by rw[h];exact aggHd.size
theorem q7Q: ∀w,(isAgg 27).run Tryz.prog w= .ok false w:=fun w=>by simp[isAgg,run_underlying underlying27]
theorem q5N: ∀w,(isAgg 24).run Tryz.prog w= .ok false w:=fun w=>by simp[isAgg,run_underlying underlying24]
theorem j25{a b c:List Value}{i n:Nat}(ha:a.length=i)(hb:b.length=n):((a++(b++c)).drop i).take n=b:=by rw[List.drop_left' ha,List.take_left' hb]
theorem j9D{h:Hd}(k:j0M h):((hdA h).toList.drop 1).take 32=(j0d 32 h.prev).toList:=by
 unfold hdA hdC
 exact j25 (by simp only[lA,j0g k.1,j0g k.2.1,j0g k.2.2.1,List.length_cons,List.length_nil]) (j0g k.1)
theorem j77{h:Hd}(k:j0M h):((hdA h).toList.drop 33).take 32=(j0d 32 h.links).toList:=by
 unfold hdA hdC
 rw[←aA]
 exact j25 (by simp only[lA,j0g k.1,j0g k.2.1,j0g k.2.2.1,List.length_cons,List.length_nil]) (j0g k.2.1)
theorem q2E{h:Hd}(k:j0M h):((hdA h).toList.drop 65).take 32=(j0d 32 h.txs).toList:=by
 unfold hdA hdC
 rw[←aA];rw[←aA]
 exact j25 (by simp only[lA,j0g k.1,j0g k.2.1,j0g k.2.2.1,List.length_cons,List.length_nil]) (j0g k.2.2.1)
theorem j9k{h:Hd}(k:j0M h):((hdA h).toList.drop 97).take 32=(j0d 32 h.past).toList:=by
 unfold hdA hdC
 rw[←aA];rw[←aA];rw[←aA]
 exact j25 (by simp only[lA,j0g k.1,j0g k.2.1,j0g k.2.2.1,List.length_cons,List.length_nil]) (j0g k.2.2.2)
theorem j9E{h:Hd}(k:j0M h):((hdA h).toList.drop 129).take 4=(wcs h.work).toList:=by
 unfold hdA hdC
 rw[←aA,←aA,←aA,←aA]
 exact j25 (by simp only[lA,j0g k.1,j0g k.2.1,j0g k.2.2.1,j0g k.2.2.2,j1j,List.length_cons,List.length_nil]) (j1j _)
theorem j6l(h:Hd):(hdA h)[0]?=some (.int .i64 h.height):=rfl
theorem j8Z{a b:List Value}{v:Value}{i:Nat}(ha:a.length=i):(a++(v::b)).toArray[i]?=some v:=by
 rw[List.getElem?_toArray,List.getElem?_append_right (by omega),ha,Nat.sub_self]
 rfl
theorem j82{h:Hd}(k:j0M h):(hdA h)[133]?=some (.int .u32 h.bits):=by
 unfold hdA hdC
 rw[←aA,←aA,←aA,←aA,←aA]
 exact j8Z (by simp only[lA,j0g k.1,j0g k.2.1,j0g k.2.2.1,j0g k.2.2.2,j1j,List.length_cons,List.length_nil])
theorem j5y{h:Hd}(k:j0M h):(hdA h)[134]?=some (.int .u64 h.nonce):=by
 unfold hdA hdC
 rw[←aA,←aA,←aA,←aA,←aA,←aA]
 exact j8Z (by simp only[lA,j0g k.1,j0g k.2.1,j0g k.2.2.1,j0g k.2.2.2,j1j,List.length_cons,List.length_nil])
section
variable {w0 u:World}{M:j0e}{g:Nat}{ty:TypeId}{h:Hd}
theorem j7j(hu:EnvC w0 M u)(hm:(g,oc (hdA h) ty)∈M)(k:j0M h):(loadVar 34 ⟨g,0,none⟩).run Tryz.prog u= .ok (hdV h) u:=by
 have:=j2s aggHd (k:=0) hu hm (hdC h) (j2e k) (by unfold hdA;rw[List.drop_zero,tL (by rw[j2e k];omega)])
 exact this
instance:Cell Tryz.prog (hdA h) 34 0 (hdV h) (j0M h):=⟨fun hu hm k=>j7j hu hm k⟩
theorem q2r{h:Hd}(k:j0M h):((hdA h).toList.drop 1).take (h.prev.map u8v).length=h.prev.map u8v:=by
 have:=j9D k
 rw[j1F k.1]at this
 rwa[lM,k.1]
theorem q1c{h:Hd}(k:j0M h):((hdA h).toList.drop 33).take (h.links.map u8v).length=h.links.map u8v:=by
 have:=j77 k
 rw[j1F k.2.1]at this
 rwa[lM,k.2.1]
theorem q5y{h:Hd}(k:j0M h):((hdA h).toList.drop 65).take (h.txs.map u8v).length=h.txs.map u8v:=by
 have:=q2E k
 rw[j1F k.2.2.1]at this
 rwa[lM,k.2.2.1]
theorem q2w{h:Hd}(k:j0M h):((hdA h).toList.drop 97).take (h.past.map u8v).length=h.past.map u8v:=by
 have:=j9k k
 rw[j1F k.2.2.2]at this
 rwa[lM,k.2.2.2]
theorem q1U(hu:EnvC w0 M u)(hm:(g,oc (hdA h) ty)∈M)(k:j0M h):(loadVar 32 ⟨g,129,none⟩).run Tryz.prog u= .ok (.agg (wcs h.work)) u:=by
 have:=j2s j88 (k:=129) hu hm _ (j1j _) (j9E k)
 rwa[j2h]at this
instance:Cell Tryz.prog (hdA h) 32 129 (.agg (wcs h.work)) (j0M h):=⟨fun hu hm k=>q1U hu hm k⟩
theorem j9I(hu:EnvC w0 M u)(hm:(g,oc (hdA h) ty)∈M):(loadVar 3 ⟨g,0,none⟩).run Tryz.prog u= .ok (.int .i64 h.height) u:=
 j0f j1S u (j0n hu hm (j6l h))
instance:Cell Tryz.prog (hdA h) 3 0 (.int .i64 h.height) (True):=⟨fun hu hm k=>j9I hu hm⟩
theorem q1B(hu:EnvC w0 M u)(hm:(g,oc (hdA h) ty)∈M)(k:j0M h):(loadVar 27 ⟨g,133,none⟩).run Tryz.prog u= .ok (.int .u32 h.bits) u:=
 j0f q7Q u (j0n hu hm (j82 k))
instance:Cell Tryz.prog (hdA h) 27 133 (.int .u32 h.bits) (j0M h):=⟨fun hu hm k=>q1B hu hm k⟩
theorem j6C(hu:EnvC w0 M u)(hm:(g,oc (hdA h) ty)∈M)(k:j0M h):(loadVar 24 ⟨g,134,none⟩).run Tryz.prog u= .ok (.int .u64 h.nonce) u:=
 j0f q5N u (j0n hu hm (j5y k))
instance:Cell Tryz.prog (hdA h) 24 134 (.int .u64 h.nonce) (j0M h):=⟨fun hu hm k=>j6C hu hm k⟩
end
section
variable {a:Act}{dst:Option Tmp}{x y z:Operand}{ty:TypeId}{pos:String}{after:Array Edge}{gd:Option (Nat × Bool)}
theorem j59{k off:Nat}(hk:([(0,0),(1,1),(2,33),(3,65),(4,97),(5,129),(6,133),(7,134)]:List (Nat × Nat)).lookup k=some off){ad:Addr}(u:World)(hx:a.eval x= .pointer (some ad)):
  (execOp a.eval ⟨dst, .fieldAddr 34 x k,ty,pos,after,gd⟩).run Tryz.prog u= .ok (.value (.pointer (some (ad.add off)))) u:=by
 unfold execOp
 simp only[hx]
 rcases k with _|_|_|_|_|_|_|_|k
 all_goals first|(cases hk;go_simp)|cases hk
instance:FldT Tryz.prog 34 [(0,0),(1,1),(2,33),(3,65),(4,97),(5,129),(6,133),(7,134)]:=⟨fun h u k=>j59 h u k⟩
end
def eqH(a b:Hd):Bool:=decide (a=b)
theorem Hd.ext'{a b:Hd}(h0:a.height=b.height)(h1:a.prev=b.prev)(h2:a.links=b.links)(h3:a.txs=b.txs)(h4:a.past=b.past)(h5:a.work=b.work)(h6:a.bits=b.bits)(h7:a.nonce=b.nonce):a=b:=by
 cases a
 cases b
 simp only at h0 h1 h2 h3 h4 h5 h6 h7
 subst h0 h1 h2 h3 h4 h5 h6 h7
 rfl
theorem x0f:(Tryz.prog.fieldsOf 34).toList.map (fun f=>(f.name== "_",f.type,f.offset))=[(false,3,0),(false,26,1),(false,26,33),(false,26,65),(false,26,97),(false,32,129),(false,27,133),(false,24,134)]:=by kernel_rfl
theorem q06 (a b:Hd) (ha:okHd a) (hb:okHd b) (w:World):(Op.equal 34 (hdV a) (hdV b)).run Tryz.prog w= .ok (eqH a b) w:=by
 unfold Op.equal hdV
 have h:=run_equalIn_struct (P:=Tryz.prog) w 9999 34 (hdA a) (hdA b) (by kernel_rfl) (by kernel_rfl)
 refine Eq.trans h ?_
 have hf:=x0f
 generalize (Tryz.prog.fieldsOf 34).toList=fs at hf ⊢
 have hl:fs.length=8:=by simpa using congrArg List.length hf
 obtain⟨f0,f1,f2,f3,f4,f5,f6,f7,rfl⟩: ∃f0 f1 f2 f3 f4 f5 f6 f7,fs=[f0,f1,f2,f3,f4,f5,f6,f7]:=by
  match fs,hl with
  |[a,b,c,d,e,f,g,h],_=>exact⟨a,b,c,d,e,f,g,h,rfl⟩
 simp only[List.map_cons,List.map_nil,List.cons.injEq,Prod.mk.injEq,beq_eq_false_iff_ne,and_true]at hf
 obtain⟨⟨n0,t0,o0⟩,⟨n1,t1,o1⟩,⟨n2,t2,o2⟩,⟨n3,t3,o3⟩,⟨n4,t4,o4⟩,⟨n5,t5,o5⟩,⟨n6,t6,o6⟩,n7,t7,o7⟩:=hf
 have la:=ha.len
 have lb:=hb.len
 have p0: ∀t:Hd,j0M t→(part 3 (hdA t) 0).run Tryz.prog w= .ok (.int .i64 t.height) w:=fun t kt=>run_part_plain (P:=Tryz.prog) w (by kernel_rfl) (j6l t)
 have p1: ∀t:Hd,j0M t→(part 26 (hdA t) 1).run Tryz.prog w= .ok (.agg (j0d 32 t.prev)) w:=fun t kt=>j0U aggIdT (by have:=j1L (j9D kt);rwa[Array.toArray_toList]at this) w
 have p2: ∀t:Hd,j0M t→(part 26 (hdA t) 33).run Tryz.prog w= .ok (.agg (j0d 32 t.links)) w:=fun t kt=>j0U aggIdT (by have:=j1L (j77 kt);rwa[Array.toArray_toList]at this) w
 have p3: ∀t:Hd,j0M t→(part 26 (hdA t) 65).run Tryz.prog w= .ok (.agg (j0d 32 t.txs)) w:=fun t kt=>j0U aggIdT (by have:=j1L (q2E kt);rwa[Array.toArray_toList]at this) w
 have p4: ∀t:Hd,j0M t→(part 26 (hdA t) 97).run Tryz.prog w= .ok (.agg (j0d 32 t.past)) w:=fun t kt=>j0U aggIdT (by have:=j1L (j9k kt);rwa[Array.toArray_toList]at this) w
 have p5: ∀t:Hd,j0M t→(part 32 (hdA t) 129).run Tryz.prog w= .ok (.agg (wcs t.work)) w:=fun t kt=>j0U j88 (by have:=j1L (j9E kt);rwa[Array.toArray_toList]at this) w
 have p6: ∀t:Hd,j0M t→(part 27 (hdA t) 133).run Tryz.prog w= .ok (.int .u32 t.bits) w:=fun t kt=>run_part_plain (P:=Tryz.prog) w (by kernel_rfl) (j82 kt)
 have p7: ∀t:Hd,j0M t→(part 24 (hdA t) 134).run Tryz.prog w= .ok (.int .u64 t.nonce) w:=fun t kt=>run_part_plain (P:=Tryz.prog) w (by kernel_rfl) (j5y kt)
 have e0:=run_equalIn_int (P:=Tryz.prog) w 9998 3 .i64 .i64 a.height b.height underlying3
 have e1:=j1e 9997 a.prev b.prev la.1 lb.1 w
 have e2:=j1e 9997 a.links b.links la.2.1 lb.2.1 w
 have e3:=j1e 9997 a.txs b.txs la.2.2.1 lb.2.2.1 w
 have e4:=j1e 9997 a.past b.past la.2.2.2 lb.2.2.2 w
 have e5:=j3b 9997 a.work b.work ha.2.2.2.2.2.1 hb.2.2.2.2.2.1 w
 have e6:=run_equalIn_int (P:=Tryz.prog) w 9998 27 .u32 .u32 a.bits b.bits underlying27
 have e7:=run_equalIn_int (P:=Tryz.prog) w 9998 24 .u64 .u64 a.nonce b.nonce underlying24
 have hd:eqH a b=((a.height==b.height) && (eqL a.prev b.prev&& (eqL a.links b.links&& (eqL a.txs b.txs&& (eqL a.past b.past&& (eqN a.work b.work&& (((a.bits:Int)==(b.bits:Int)) && ((a.nonce:Int)==(b.nonce:Int))))))))):=by
  unfold eqH eqL eqN
  rw[Bool.eq_iff_iff]
  simp only[decide_eq_true_eq,Bool.and_eq_true,beq_iff_eq,Int.natCast_inj]
  exact⟨fun h=>by subst h;exact⟨rfl,rfl,rfl,rfl,rfl,rfl,rfl,rfl⟩,fun h=>Hd.ext' h.1 h.2.1 h.2.2.1 h.2.2.2.1 h.2.2.2.2.1 h.2.2.2.2.2.1 h.2.2.2.2.2.2.1 h.2.2.2.2.2.2.2⟩
 rw[hd]
 rw[j0r (a:= .int .i64 a.height) (b:= .int .i64 b.height) n0 (by rw[t0,o0];exact p0 a la) (by rw[t0,o0];exact p0 b lb) (by rw[t0];exact e0)]
 cases hc0:(a.height==b.height)with
 |false=>rfl
 | true =>
  rw[if_pos rfl,j0r (a:= .agg (j0d 32 a.prev)) (b:= .agg (j0d 32 b.prev)) n1 (by rw[t1,o1];exact p1 a la) (by rw[t1,o1];exact p1 b lb) (by rw[t1];exact e1)]
  cases hc1:eqL a.prev b.prev with
  |false=>rfl
  | true =>
   rw[if_pos rfl,j0r (a:= .agg (j0d 32 a.links)) (b:= .agg (j0d 32 b.links)) n2 (by rw[t2,o2];exact p2 a la) (by rw[t2,o2];exact p2 b lb) (by rw[t2];exact e2)]
   cases hc2:eqL a.links b.links with
   |false=>rfl
   | true=>
    rw[if_pos rfl,j0r (a:= .agg (j0d 32 a.txs)) (b:= .agg (j0d 32 b.txs)) n3 (by rw[t3,o3];exact p3 a la) (by rw[t3,o3];exact p3 b lb) (by rw[t3];exact e3)]
    cases hc3:eqL a.txs b.txs with
    |false=>rfl
    | true=>
     rw[if_pos rfl,j0r (a:= .agg (j0d 32 a.past)) (b:= .agg (j0d 32 b.past)) n4 (by rw[t4,o4];exact p4 a la) (by rw[t4,o4];exact p4 b lb) (by rw[t4];exact e4)]
     cases hc4:eqL a.past b.past with
     |false=>rfl
     | true=>
      rw[if_pos rfl,j0r (a:= .agg (wcs a.work)) (b:= .agg (wcs b.work)) n5 (by rw[t5,o5];exact p5 a la) (by rw[t5,o5];exact p5 b lb) (by rw[t5];exact e5)]
      cases hc5:eqN a.work b.work with
      |false=>rfl
      | true=>
       rw[if_pos rfl,j0r (a:= .int .u32 a.bits) (b:= .int .u32 b.bits) n6 (by rw[t6,o6];exact p6 a la) (by rw[t6,o6];exact p6 b lb) (by rw[t6];exact e6)]
       cases hc6:((a.bits:Int)==(b.bits:Int))with
       |false=>rfl
       | true=>
        rw[if_pos rfl,j0r (a:= .int .u64 a.nonce) (b:= .int .u64 b.nonce) n7 (by rw[t7,o7];exact p7 a la) (by rw[t7,o7];exact p7 b lb) (by rw[t7];exact e7)]
        cases hc7:((a.nonce:Int)==(b.nonce:Int))with
        |false=>rfl
        |true=>
         rfl
theorem q4B(s t:Hd)(hs:okHd s)(ht:okHd t)(w:World):(binOp .eql 34 (hdV s) (hdV t)).run Tryz.prog w= .ok (.bool (eqH s t)) w:=by
 have h:=q06 s t hs ht w
 unfold hdV at *
 simp only[binOp]
 simp[h]
theorem x2a:Tryz.prog.eqGuardType Tryz.prog.depth 34=false:=by kernel_rfl
section
variable {a:Act}{dst:Option Tmp}{x y:Operand}{ty:TypeId}{pos:String}{after:Array Edge}{gd:Option (Nat × Bool)}
theorem j63{s t:Hd}{b:Bool}(hs:okHd s)(ht:okHd t)(hb:eqH s t=b)(u:World)(hx:a.eval x=hdV s)(hy:a.eval y=hdV t):
  (execOp a.eval ⟨dst, .binOp .eql 34 x y 34,ty,pos,after,gd⟩).run Tryz.prog u= .ok (.value (.bool b)) u:=by
 have h:=q4B s t hs ht u
 have hg:=run_eqGuard_agg (P:=Tryz.prog) u .eql 34 x y (hdA s) (hdA t) x2a
 rw[←hb]
 unfold hdV at *
 unfold execOp
 simp only[hx,hy,Sem.run_bind,hg,Result.andThen_ok,h,Sem.run_pure]
end
theorem q3w:hdA j2H=zeroCells34:=by kernel_rfl
section
variable {dst:Option Tmp}{ty:TypeId}{pos:String}{after:Array Edge}{gd:Option (Nat × Bool)}
theorem q3A(a:Act):j3r Tryz.prog ⟨dst, .alloc 34,ty,pos,after,gd⟩ a (.cells (hdA j2H) 34 (0,0)):=fun u=>by
 rw[q3w]
 go_simp
end
theorem x0e(h:Hd)(k:j0M h):Tryz.prog.built 34 [(0, .int .i64 h.height),(1,idv h.prev),(2,idv h.links),(3,idv h.txs),(4,idv h.past),(5, .agg (wcs h.work)),(6, .int .u32 h.bits),(7, .int .u64 h.nonce)]=some (hdA h):=by
 have z1:(j0d 32 h.prev).size=32:=j0c _ _ (by rw[k.1];omega)
 have z2:(j0d 32 h.links).size=32:=j0c _ _ (by rw[k.2.1];omega)
 have z3:(j0d 32 h.txs).size=32:=j0c _ _ (by rw[k.2.2.1];omega)
 have z4:(j0d 32 h.past).size=32:=j0c _ _ (by rw[k.2.2.2];omega)
 have z5:=j0s h.work
 have e:j0J [(0, .int .i64 h.height),(1,idv h.prev),(2,idv h.links),(3,idv h.txs),(4,idv h.past),(5, .agg (wcs h.work)),(6, .int .u32 h.bits),(7, .int .u64 h.nonce)]=hdC h:=by simp[j0J,hdC,idv,Value.cells]
 have:=j2m (t:=34) (n:=135) underlying34 (by kernel_rfl) (places:=[(0,1),(1,32),(33,32),(65,32),(97,32),(129,4),(133,1),(134,1)]) (by kernel_rfl) (ps:=[(0, .int .i64 h.height),(1,idv h.prev),(2,idv h.links),(3,idv h.txs),(4,idv h.past),(5, .agg (wcs h.work)),(6, .int .u32 h.bits),(7, .int .u64 h.nonce)]) (by
  refine⟨?_,?_,?_,?_,?_,?_,?_,?_,trivial⟩
  · rfl
  · show some (1,32)=some (0+1,(j0d 32 h.prev).size)
    rw[z1]
  · show some (33,32)=some (0+1+(j0d 32 h.prev).size,(j0d 32 h.links).size)
    rw[z1,z2]
  · show some (65,32)=some (0+1+(j0d 32 h.prev).size+(j0d 32 h.links).size,(j0d 32 h.txs).size)
    rw[z1,z2,z3]
  · show some (97,32)=some (0+1+(j0d 32 h.prev).size+(j0d 32 h.links).size+(j0d 32 h.txs).size,(j0d 32 h.past).size)
    rw[z1,z2,z3,z4]
  · show some (129,4)=some (0+1+(j0d 32 h.prev).size+(j0d 32 h.links).size+(j0d 32 h.txs).size+(j0d 32 h.past).size,(wcs h.work).size)
    rw[z1,z2,z3,z4,z5]
  · show some (133,1)=some (0+1+(j0d 32 h.prev).size+(j0d 32 h.links).size+(j0d 32 h.txs).size+(j0d 32 h.past).size+(wcs h.work).size,1)
    rw[z1,z2,z3,z4,z5]
  · show some (134,1)=some (0+1+(j0d 32 h.prev).size+(j0d 32 h.links).size+(j0d 32 h.txs).size+(j0d 32 h.past).size+(wcs h.work).size+1,1)
    rw[z1,z2,z3,z4,z5]) (by rw[e,j2e k])
 rw[this,e]
 rfl
theorem j93(a:Nat)(w:World):
  Rz 111 #[.agg (wcs a)] w (.agg (idF (j1b a))):=by
 unfold Rz
 go_enter func111,ntmps111
 go_wp2_with fail
 go_loopw [6] (fun i u=> ∃k:Nat,k≤32∧i= .int .i64 k∧Below w.heap.size w u∧Hid (Row u w.heap.size 32 (wcs a)∧Row u (w.heap.size+1) 26 (j0d 32 [])∧Row u (w.heap.size+1+1) 26 (idF (fun i=>if i<k then j1b a i else 0)))) (fun i _=>32- (intOf i).toNat)
 case atStart=>
  refine⟨0,by omega,rfl,by go_grown,((Row.new w 32 _).alloc _).alloc _,(Row.newAt (by simp) 26 _).alloc _,?_⟩
  have e:idF (fun i=>if i<0 then j1b a i else 0)=j0d 32 []:=by rw[q86];exact q0Y _ _ (fun i _=>by simp)
  rw[e]
  exact Row.newAt (by simp) 26 _
 case round=>
  obtain⟨k,hk,rfl,hbl,hrows⟩:=hrel
  obtain⟨r0,r1,r2⟩:=hrows.out
  by_cases hlt:k<32
  · have hk0:(0:Int)≤(k:Int):=by omega
    have hk4:(k:Int)<32:=by omega
    have e0:wr.cell? ⟨w.heap.size,3- k/8,none⟩=some (.int .u64 (W a (3- k/8))):=(r0.cell _).trans (j2U a _ (by omega))
    have e2:=(r2.cell k).trans (q2m _ k hlt)
    have f2:=r2.frozen k
    have R0:=hD r0
    have R1:=hD r1
    have R2:=hD r2
    have hput:Hid ((idF (fun i=>if i<k then j1b a i else 0)).setIfInBounds k (.int .u8 (j1b a k))=idF (fun i=>if i<k+1 then j1b a i else 0)):=by
     show _=_
     refine x2o _ _ k _ hlt (by simp) (fun i _ hne=>?_)
     by_cases hik:i<k
     · rw[if_pos hik,if_pos (by omega)]
     · rw[if_neg hik,if_neg (by omega)]
    have q0:0≤3- (k:Int) /8:=by omega
    have q1:3- (k:Int) /8<4:=by omega
    have q2:(0:Int)≤7- (k:Int) % 8:=by omega
    have q3:7- (k:Int) % 8<8:=by omega
    have hv:Hid ((W a (3- k/8):Int) /2^ (8*(7- k % 8)) % 256=j1b a k):=by
     show _=_
     unfold j1b
     rw[←q8G a k hlt,x4v]
     omega
    have hW:=x4f a (3- k/8)
    clear r0 r1 r2 hrows
    generalize W a (3- k/8)=x at *
    generalize (if k<k then j1b a k else 0)=z at *
    have hx0:(0:Int)≤(x:Int):=by omega
    go_wp2_with (go_at_call 170;refine(j8N _ _ (by omega) (by omega)).mono ?_;rintro e w' ⟨rfl,rfl⟩)
    go_roundw
    case rel=>
     refine⟨k+1,by omega,by go_num,hbl.setCell (by simp;omega) _,R0.out.farAt (by omega) _,R1.out.farAt (by omega) _,?_⟩
     rw[←hput.out,←hv.out]
     exact R2.out.put k _
    case measure=>simp[intOf];omega
  · obtain rfl:k=32:=by omega
    have hE:idF (fun i=>if i<32 then j1b a i else 0)=idF (j1b a):=q0Y _ _ (fun i hi=>by rw[if_pos hi])
    rw[hE]at r2
    have hsz:=hD (j9l (j1b a))
    have hz0:=hD (j0c 32 [] (by simp))
    have ho:=hD (x3e (j1b a))
    have R1:Hid (wr.heap[w.heap.size+1]?=some (.cells (j0d 32 []) 26 (0,0))):=r1
    have R2:Hid (wr.heap[w.heap.size+1+1]?=some (.cells (idF (j1b a)) 26 (0,0))):=r2
    clear r0 r1 r2 hrows hE
    generalize hE2:idF (j1b a)=cs at *
    have HE:=hD hE2
    clear hE2
    generalize j0d 32 []=zs at *
    go_wp2_with (first
     |((with_reducible refine wpList_load_row (o:=⟨some 23,_,_,_,_,_⟩) ?_ 26 (.tmp 3) ?_ (w.heap.size+1+1) ?_ 26 cs (0,0) _ R2.out underlying26 ?_ (q3T cs hsz.out) ?_);(rfl);(rfl);(rfl);(rfl))
     |((with_reducible refine wpList_store_row (o:=⟨none, .store 26 _ _,_,_,_,_⟩) ?_ 26 (.tmp 2) (.tmp 23) ?_ (w.heap.size+1) cs ?_ ?_ 26 zs R1.out (q3T cs hsz.out) (by rw[hz0.out,hsz.out]) ho.out ?_);(rfl);(rfl);(rfl);(rfl))
     |((with_reducible refine bodyPost_ret (v:= .agg cs) ?_ ?_ ?_);(exact results_cell_row (p:=2) (ty:=26) results111 _ _ (w.heap.size+1) 26 cs (0,0) _ rfl (setRow_heap _ _ zs cs 26 (0,0) R1.out) underlying26 rfl (q3T cs hsz.out));(rfl)))
    exact⟨by rw[HE.out],j0G hbl (by omega) _⟩
section
variable {a:Act}{dst:Option Tmp}{x:Operand}{ty:TypeId}{pos:String}{after:Array Edge}{gd:Option (Nat × Bool)}
theorem q7b{m:Nat}{k:Int}(u:World)(h:IntKind.u64.wrap k=(m:Int))(hx:a.eval x= .int .u32 k):
  (execOp a.eval ⟨dst, .convert 27 24 x,ty,pos,after,gd⟩).run Tryz.prog u= .ok (.value (.int .u64 (m:Int))) u:=by
 rw[←h]
 unfold execOp
 simp only[hx]
 go_simp
end
section
variable {a:Act}{dst:Option Tmp}{x y:Operand}{ty:TypeId}{pos:String}{after:Array Edge}{gd:Option (Nat × Bool)}
end
theorem x2B{l:List Int}(hl:l.length=32)(hb:isB l):j0d 32 l=idF (fun i=>(((l.getD i 0).toNat:Nat):Int)):=by
 unfold idF
 congr 1
 apply List.ext_getElem?
 intro i
 unfold j3J
 by_cases h1:i<32
 · rw[List.getElem?_map,List.getElem?_range h1,gE (by omega)]
   have:=hb _ (List.getElem_mem (show i<l.length by omega))
   show some _=some (((l.getD i 0).toNat:Nat):Int)
   rw[gD,gE (by omega)]
   simp only[Option.getD_some]
   congr 1
   omega
 · rw[gN (by omega),gN (by rw[lM,List.length_range];omega)]
theorem q5z{l:List Int}(hb:isB l)(i:Nat):(l.getD i 0).toNat<256:=by
 rw[gD]
 cases h:l[i]? with
 |none=>exact(by decide:(0:Int).toNat<256)
 |some x=>
  have:=hb x (List.mem_of_getElem? h)
  simp only[Option.getD_some]
  omega
theorem x4c(h:Hd):(idH h).length=32:=by
 unfold idH
 split
 · exact j1V _
 · rfl
theorem q7f(h:Hd):isB (idH h):=by
 unfold idH
 split
 · exact j3v _
 · intro y hy
   rw[List.eq_of_mem_replicate hy]
   decide
theorem q56:Tryz.prog.built 32 []=some (wcs 0):=by kernel_rfl
theorem j8O{h:Hd}(hh:okHd h)(k:Nat):okHd (j0T h k):=⟨hh.1,hh.2.1,hh.2.2.1,hh.2.2.2.1,hh.2.2.2.2.1,hh.2.2.2.2.2.1,hh.2.2.2.2.2.2.1,Nat.mod_lt _ (by omega)⟩
theorem q6E{h:Hd}{tries:Int}{k:Nat}(hk:k<(min tries 200).toNat)(h0: ∀j,j<k→j4U (j0T h j)=false)(h1:j4U (j0T h k)=true):j3x h tries=(j0T h k,true):=by
 unfold j3x
 have e:(List.range (min tries 200).toNat).find? (fun k=>j4U (j0T h k))=some k:=List.find?_range_eq_some.2 ⟨h1,List.mem_range.2 hk,fun j hj=>by simp[h0 j hj]⟩
 rw[e]
theorem q73{h:Hd}{tries:Int}(h0: ∀j,j<(min tries 200).toNat→j4U (j0T h j)=false):j3x h tries=(h,false):=by
 unfold j3x
 have e:(List.range (min tries 200).toNat).find? (fun k=>j4U (j0T h k))=none:=List.find?_range_eq_none.2 (fun j hj=>by simp[h0 j hj])
 rw[e]
section
variable {a:Act}{dst:Option Tmp}{x y:Operand}{ty:TypeId}{pos:String}{after:Array Edge}{gd:Option (Nat × Bool)}
end
theorem j8w:Tryz.prog.cellsOf 32=4:=by kernel_rfl
theorem q8w:Tryz.prog.cellsOf 3=1:=by kernel_rfl
theorem q2N:Tryz.prog.cellsOf 34=135:=by kernel_rfl
theorem q8X:Tryz.prog.cellsOf 27=1:=by kernel_rfl
theorem q3l:Tryz.prog.cellsOf 24=1:=by kernel_rfl
section
variable {H:Type}{enc:TypeId × Value→H}{W:World}{base:Nat}{spare:Nat→Bool}{held:Bool}{fuel:Nat}{cs:List Value}{x:DataW H × List MemPlace}
theorem q1O(h:DataW.trod enc Tryz.prog W base spare held fuel 32 cs=some x): ∃n:Nat,n<Big∧cs=(wcs n).toList:=by
 obtain⟨ys,m,_,_,hlen,hl,hall⟩:=DataW.trod_array underlying32 h
 rw[j8w]at hlen
 have hc: ∀i,i<4→ ∃n:Int,cs[i]?=some (.int .u64 n)∧0≤n∧n<18446744073709551616:=by
  intro i hi
  have h1:=hall i hi
  rw[gE (by omega:i<ys.length)]at h1
  obtain⟨n,e,_,wf⟩:=DataW.trod_int underlying24 h1
  refine⟨n,?_,?_⟩
  · rw[q3l,Nat.mul_one]at e
    have hi':i<cs.length:=by omega
    simp only[List.drop_eq_getElem_cons hi',List.take_succ_cons,List.take_zero,List.cons.injEq,and_true]at e
    rw[gE hi',e]
  · have:=bounds_u64 wf
    omega
 obtain⟨a,e0,a0,a1⟩:=hc 0 (by omega)
 obtain⟨b,e1,b0,b1⟩:=hc 1 (by omega)
 obtain⟨c,e2,c0,c1⟩:=hc 2 (by omega)
 obtain⟨d,e3,d0,d1⟩:=hc 3 (by omega)
 have hcs:cs.toArray=j2b 4 [a,b,c,d]:=by
  apply q20
  · simp
  · simpa using hlen
  · intro i hi
    rw[List.getElem?_toArray]
    rcases i with _|_|_|_|i
    · exact e0
    · exact e1
    · exact e2
    · exact e3
    · omega
 obtain⟨n,hn,hw⟩:=x4x [a,b,c,d] rfl (by
  intro k
  rcases k with _|_|_|_|k
  · exact⟨a0,a1⟩
  · exact⟨b0,b1⟩
  · exact⟨c0,c1⟩
  · exact⟨d0,d1⟩
  · simp)
 refine⟨n,hn,?_⟩
 have h2:cs.toArray=wcs n:=by rw[hcs,hw];rfl
 rw[←h2]
theorem q90(h:DataW.trod enc Tryz.prog W base spare held fuel 34 cs=some x): ∃t:Hd,okHd t∧cs=hdC t:=by
 obtain⟨xs,n,_,_,hl,hlen,hf⟩:=DataW.trod_struct underlying34 h
 rw[q2N]at hl
 obtain⟨y0,y1,y2,y3,y4,y5,y6,y7,rfl⟩: ∃y0 y1 y2 y3 y4 y5 y6 y7,xs=[y0,y1,y2,y3,y4,y5,y6,y7]:=by
  match xs,hlen with
  |[a,b,c,d,e,f,g,h],_=>exact⟨a,b,c,d,e,f,g,h,rfl⟩
 obtain⟨i0,e0,_,w0⟩:=DataW.trod_int underlying3 (by simpa using hf 0 _ rfl)
 obtain⟨p1,l1,b1,e1⟩:=j4W (by simpa using hf 1 _ rfl)
 obtain⟨p2,l2,b2,e2⟩:=j4W (by simpa using hf 2 _ rfl)
 obtain⟨p3,l3,b3,e3⟩:=j4W (by simpa using hf 3 _ rfl)
 obtain⟨p4,l4,b4,e4⟩:=j4W (by simpa using hf 4 _ rfl)
 obtain⟨n5,hn5,e5⟩:=q1O (by simpa using hf 5 _ rfl)
 obtain⟨i6,e6,_,w6⟩:=DataW.trod_int underlying27 (by simpa using hf 6 _ rfl)
 obtain⟨i7,e7,_,w7⟩:=DataW.trod_int underlying24 (by simpa using hf 7 _ rfl)
 obtain⟨n6,rfl⟩: ∃n:Nat,i6=(n:Int):=Int.eq_ofNat_of_zero_le (bounds_u32 w6).1
 obtain⟨n7,rfl⟩: ∃n:Nat,i7=(n:Int):=Int.eq_ofNat_of_zero_le (bounds_u64 w7).1
 have hi: ∀p:List Int,p.length=32→p.map u8v=(j0d 32 p).toList:=fun p hp=>(j1F hp).symm
 simp only[q8w,q8X,q3l,j8w,j5K,hi p1 l1,hi p2 l2,hi p3 l3,hi p4 l4]at e0 e1 e2 e3 e4 e5 e6 e7
 refine⟨⟨i0,p1,p2,p3,p4,n5,n6,n7⟩,⟨bounds_i64 w0,⟨l1,b1⟩,⟨l2,b2⟩,⟨l3,b3⟩,⟨l4,b4⟩,hn5,by have:=(bounds_u32 w6).2;show n6<_;omega,by have:=(bounds_u64 w7).2;show n7<_;omega⟩,?_⟩
 unfold hdC
 simp only
 rw[←e0,←e1,←e2,←e3,←e4,←e5,←e6,←e7]
 have j: ∀(o k:Nat)(r:List Value),cs.drop (o+k)=r→(cs.drop o).take k++r=cs.drop o:=fun o k r hr=>by rw[←hr,←List.drop_drop,List.take_append_drop]
 have j7:(cs.drop 134).take 1=cs.drop 134:=tL (by rw[List.length_drop];omega)
 rw[j7,j 133 1 _ rfl,j 129 4 _ rfl,j 97 32 _ rfl,j 65 32 _ rfl,j 33 32 _ rfl,←List.drop_one,j 1 32 _ rfl]
 exact(List.take_append_drop 1 cs).symm
end
section
variable {H:Type}{enc:TypeId × Value→H}{W:World}{base:Nat}{v:Value}{d:DataW H}{p:List MemPlace}
end
def x3Z{H:Type}:DataW H:= .agg [.lit (.int .i64 0), .agg (List.replicate 32 (.lit (.int .u8 0))), .agg (List.replicate 32 (.lit (.int .u8 0))), .agg (List.replicate 32 (.lit (.int .u8 0))), .agg (List.replicate 32 (.lit (.int .u8 0))), .agg (List.replicate 4 (.lit (.int .u64 0))), .lit (.int .u32 0), .lit (.int .u64 0)]
theorem zTot_size:(j0E j3i).size=37:=by decide+kernel
theorem q4Y{h:List Int}(hh:h.length=32):Tryz.prog.built 61 [(0,idv h)]=some (j0E ⟨h,0,0⟩):=by
 have hs:(j0d 32 h).size=32:=j0c _ _ (by omega)
 have hz:=elTot.info
 cases hq:Tryz.prog.info? 61 with
 |none=>rw[hq]at hz;cases hz
 |some it=>
  rw[hq]at hz
  simp only[Option.map_some,Option.some.injEq,Prod.mk.injEq]at hz
  have hp:(Tryz.prog.fieldsOf 61).toList.mapM (fun f=>(Tryz.prog.info? f.type).map fun i=>(f.offset,i.size))=some [(0,32),(32,4),(36,1)]:=by kernel_rfl
  have hu:Tryz.prog.underlying 61=some (.struct (Tryz.prog.fieldsOf 61)):=by kernel_rfl
  unfold Program.built
  simp only[hq,hu,hz.1,hp]
  obtain⟨r,hr,hl⟩:=j6V (place:=(([(0,32),(32,4),(36,1)]:List (Nat × Nat)).toArray[·]?)) [(0,idv h)] 0 (j0E j3i) ⟨by show some (0,32)=some (0,(j0d 32 h).size);rw[hs],trivial⟩ (by rw[zTot_size];simp[j0J,idv,Value.cells,hs])
  refine Eq.trans hr ?_
  congr 1
  apply Array.ext'
  rw[hl]
  have e:j0J [(0,idv h)]=(j0d 32 h).toList:=by simp[j0J,idv,Value.cells]
  rw[e,List.take_zero,List.nil_append,Nat.zero_add,j0g hh]
  show _=(j0d 32 h).toList++((wcs 0).toList++[.int .i64 0])
  congr 1
theorem TotsIn.up{w w':World}{A:Option Addr}{l:List Tot}(h:TotsIn w w.heap.size A l)(hb:Below w.heap.size w w'):TotsIn w' w'.heap.size A l:=CellsIn.up h hb
theorem TotsIn.nil(w:World)(B:Nat)(A:Option Addr):TotsIn w B A []:=fun h=>absurd h (by decide)
def OwnT(w:World)(B:Nat)(v:Value)(l:List Tot):Prop:=w.ownsRow B 61 37 v l.length (l.map j11).flatten
theorem OwnT.nil(w:World)(B:Nat):OwnT w B (.slice none 0 0) []:=World.ownsRow_nil _ _ _ _
theorem j2x{l:List Tot}(h:okTs l):(l.map j11).flatten.length=l.length*37:=by rw[(x3U h).flat_len,lM]
def x4V(m:Nat):Value:= .int .i64 (m:Int)
def OwnZ(w:World)(B:Nat)(v:Value)(l:List Nat):Prop:=w.ownsRow B 3 1 v l.length (l.map x4V)
theorem OwnZ.nil(w:World)(B:Nat):OwnZ w B (.slice none 0 0) []:=World.ownsRow_nil _ _ _ _
theorem q2u(s t:Tot)(hs:okT s)(ht:okT t)(w:World):(binOp .neq 61 (j3j s) (j3j t)).run Tryz.prog w= .ok (.bool (!eqT s t)) w:=by
 have h:=j9B s t hs ht w
 unfold j3j at *
 simp only[binOp]
 simp[h]
theorem x0R:Tryz.prog.eqGuardType Tryz.prog.depth 61=false:=by kernel_rfl
section
variable {a:Act}{dst:Option Tmp}{x y:Operand}{ty:TypeId}{pos:String}{after:Array Edge}{gd:Option (Nat × Bool)}
theorem x2u{s t:Tot}(hs:okT s)(ht:okT t)(u:World)(hx:a.eval x=j3j s)(hy:a.eval y=j3j t):
  (execOp a.eval ⟨dst, .binOp .neq 61 x y 61,ty,pos,after,gd⟩).run Tryz.prog u= .ok (.value (.bool (!eqT s t))) u:=by
 have h:=q2u s t hs ht u
 have hg:=run_eqGuard_agg (P:=Tryz.prog) u .neq 61 x y (j0E s) (j0E t) x0R
 unfold j3j at *
 unfold execOp
 simp only[hx,hy,Sem.run_bind,hg,Result.andThen_ok,h,Sem.run_pure]
end
theorem q7K{l q:List Tot}{k:Nat}(h:l.take k=q.take k)(h1:k<l.length)(h2:k<q.length)(e:l.getD k noTot=q.getD k noTot):l.take (k+1)=q.take (k+1):=by
 rw[List.take_add_one,List.take_add_one,h,gE h1,gE h2]
 rw[gD,gD,gE h1,gE h2]at e
 simp only[Option.getD_some]at e
 rw[e]
theorem q4q (l q:List Tot) (A A':Option Addr) (n c m c':Nat) (w:World) (hl:l.length=n) (hq:q.length=m) (hn:n≤1000000) (hm:m≤1000000) (hnc:n≤c) (hc:c≤maxLen) (hmc:m≤c') (hc':c'≤maxLen) (hI:okTs l) (hJ:okTs q) (hA:TotsIn w w.heap.size A l) (hB:TotsIn w w.heap.size A' q):
   Rz 48 #[.slice A n c, .slice A' m c'] w (.bool (decide (l=q))):=by
 unfold Rz
 unfold maxLen at hc hc'
 have HL:=hD hl
 have HQ:=hD hq
 have HI:=hD (And.intro hI hA)
 have HJ:=hD (And.intro hJ hB)
 clear hI hA hJ hB hl hq
 by_cases hnm:n=m
 · subst hnm
   go_enter func48,ntmps48
   go_upto_region 4 with (fail)
   go_loopw [5] (fun i u=> ∃k:Nat,k≤n∧i= .int .i64 k∧Below w.heap.size w u∧Hid (l.take k=q.take k)) (fun i _=>n- (intOf i).toNat)
   case atStart=>exact⟨0,by omega,rfl,Below.refl _ _,rfl⟩
   case round=>
    obtain⟨k,hk,rfl,hbl,hsame⟩:=hrel
    by_cases hlt:k<n
    · have hk2:(k:Int)<(n:Int):=by omega
      obtain⟨a1,rfl,h1⟩:=HI.out.2.loads HI.out.1 (k:=k) (by rw[HL.out];exact hlt)
      obtain⟨a2,rfl,h2⟩:=HJ.out.2.loads HJ.out.1 (k:=k) (by rw[HQ.out];exact hlt)
      have H1:=hD h1
      have H2:=hD h2
      have E1:Hid (EnvX w wr []):=⟨hbl,fun _ _ h=>by cases h⟩
      have HX:=hD (HI.out.1.get (i:=k) (by rw[HL.out];exact hlt))
      have HY:=hD (HJ.out.1.get (i:=k) (by rw[HQ.out];exact hlt))
      have HST:=hD (q7K hsame.out (by rw[HL.out];exact hlt) (by rw[HQ.out];exact hlt))
      have HNE:Hid (l.getD k noTot≠q.getD k noTot→l≠q):=fun h e=>h (by rw[e])
      clear h1 h2 hsame hbl
      generalize l.getD k noTot=x at *
      generalize q.getD k noTot=y at *
      go_upto_region 6 with (fail)
      refine rgK [0,1,2,3,4,5,6,7,8] 0 E1 rfl fun hw=>?_
      refine qw 3 hw ?_
      refine qv rfl (fun u hu=>j0a u (H1.out u (nl hu)).1 rfl) hw ?_
      refine qw 3 hw ?_
      refine qv rfl (fun u hu=>j0a u (H2.out u (nl hu)).1 rfl) hw ?_
      refine qv (v:= .bool (!eqT x y)) rfl (fun u hu=>x2u HX.out HY.out u rfl rfl) hw ?_
      refine eH fun u3 EX2=>?_
      by_cases hxy:x=y
      · have hb:eqT x y=true:=by simp[eqT,hxy]
        rw[hb]
        go_wp2
        go_roundw
        case rel=>exact⟨k+1,by omega,by go_num,EnvX.bel EX2.out,HST.out hxy⟩
        case measure=>simp[intOf];omega
      · have hb:eqT x y=false:=by simp[eqT,hxy]
        have HR:Hid (decide (l=q)=false):=by
         show _=_
         simp[HNE.out hxy]
        rw[hb]
        go_wp2
        go_ret
        exact⟨by rw[HR.out];rfl,EnvX.bel EX2.out⟩
    · obtain rfl:k=n:=by omega
      have HR:Hid (decide (l=q)=true):=by
        have h:=hsame.out
        rw[tL (by rw[HL.out];exact Nat.le_refl _),tL (by rw[HQ.out];exact Nat.le_refl _)]at h
        show _=_
        simp[h]
      clear hsame
      go_wp2
      go_ret
      exact⟨by rw[HR.out];rfl,hbl⟩
 · have hne: ¬(n:Int)=(m:Int):=by omega
   have HR:Hid (decide (l=q)=false):=by
    show _=_
    have:l≠q:=fun e=>hnm (by rw[←HL.out,←HQ.out,e])
    simp[this]
   go_enter func48,ntmps48
   go_wp2
   go_ret
   exact⟨by rw[HR.out];rfl,Below.refl _ _⟩
section
variable {a:Act}{dst:Option Tmp}{x y:Operand}{ty:TypeId}{pos:String}{after:Array Edge}{gd:Option (Nat × Bool)}
theorem j6b{m k:Int}{b:Bool}(u:World)(hb:decide (m<k)=b)(hx:a.eval x= .int .i64 m)(hy:a.eval y= .int .i64 k):
  (execOp a.eval ⟨dst, .binOp .lss 3 x y 3,ty,pos,after,gd⟩).run Tryz.prog u= .ok (.value (.bool b)) u:=by
 subst hb
 unfold execOp
 simp only[hx,hy]
 go_simp
theorem q6r{k off:Nat}(hk:([(0,0),(1,32),(2,36)]:List (Nat × Nat)).lookup k=some off){ad:Addr}(u:World)(hx:a.eval x= .pointer (some ad)):
   (execOp a.eval ⟨dst, .fieldAddr 61 x k,ty,pos,after,gd⟩).run Tryz.prog u= .ok (.value (.pointer (some (ad.add off)))) u:=by
 unfold execOp
 simp only[hx]
 rcases k with _|_|_|k
 · cases hk;go_simp
 · cases hk;go_simp
 · cases hk;go_simp
 · cases hk
instance:FldT Tryz.prog 61 [(0,0),(1,32),(2,36)]:=⟨fun h u k=>q6r h u k⟩
end
section
variable {P:Program}{Γ:HP}{ops:Array Oper}{md:Region.Mode}{w0:World}{Q:Act→j0e→Prop}{f i:Nat}{listed:Array Bool}{a:Act}{M:j0e}
theorem j5g{j:Nat}{di dj:Option Tmp}{opi opj:Op}{ti tj:TypeId}{pi pj:String}{afi afj:Array Edge}{gi gj:Option (Nat × Bool)}(hQ: ∀a(M M':j0e),(∀x,x∈M↔x∈M')→Q a M→Q a M')
   (hr:Region.ready md ops listed=[i,j]) (hri:Region.ready md ops (listed.setIfInBounds i true)=[j]) (hrj:Region.ready md ops (listed.setIfInBounds j true)=[i])
   (hi:ops[i]?=some ⟨di,opi,ti,pi,afi,gi⟩) (hj:ops[j]?=some ⟨dj,opj,tj,pj,afj,gj⟩) (hij:i≠j)
   (hap:(Oper.apart ops ⟨di,opi,ti,pi,afi,gi⟩ ⟨dj,opj,tj,pj,afj,gj⟩ && Region.noSelect ops)=true)
   (hwi:Region.wanted ⟨di,opi,ti,pi,afi,gi⟩ (yielded ops a.tmps)=true) (hwj:Region.wanted ⟨dj,opj,tj,pj,afj,gj⟩ (yielded ops a.tmps)=true)
   (Ri Rj:Value→j0e→Prop) (Mi Mj:j0e) (hMi: ∀x∈Mi,x∈M) (hMj: ∀x∈Mj,x∈M) (hvi: ∀u,EnvX w0 u Mi→FAt P ⟨di,opi,ti,pi,afi,gi⟩ a Ri u) (hvj: ∀u,EnvX w0 u Mj→FAt P ⟨dj,opj,tj,pj,afj,gj⟩ a Rj u)
   (h : ∀x Nx y Ny,Ri x Nx→Rj y Ny→j01 w0 Nx M→j01 w0 Ny (Nx++M)→(∃u,EnvX w0 u (Ny++(Nx++M)))→
     ∀K1:Act→Prop,(∀a1,(∀K2:Act→Prop,(∀a2,j1s (Γ:=Γ) P md ops w0 Q f ((listed.setIfInBounds i true).setIfInBounds j true) a2 (Ny++(Nx++M))→K2 a2)→Oper.quiet P ⟨dj, .move (.const y),tj,pj,afj,none⟩ a1 (fun _=>True) K2)→K1 a1)→
      Oper.quiet P ⟨di, .move (.const x),ti,pi,afi,none⟩ a (fun _=>True) K1):
   j1s (Γ:=Γ) P md ops w0 Q (f+2) listed a M:=by
 simp only[Bool.and_eq_true]at hap
 obtain⟨q1,q2,q3⟩:=Oper.apart_spec hap.1
 have hsel:=Region.noSelect_spec hap.2
 have H: ∀x Nx y Ny,Ri x Nx→Rj y Ny→j01 w0 Nx M→j01 w0 Ny (Nx++M)→(∃u,EnvX w0 u (Ny++(Nx++M)))→
     j1s (Γ:=Γ) P md ops w0 Q f ((listed.setIfInBounds i true).setIfInBounds j true) ((a.put di x).put dj y) (Ny++(Nx++M)):=fun x Nx y Ny a1 a2 a3 a4 a5=>
   j44 w0 (j44 (K:=fun a1=> ∀K2:Act→Prop,(∀a2,j1s (Γ:=Γ) P md ops w0 Q f ((listed.setIfInBounds i true).setIfInBounds j true) a2 (Ny++(Nx++M))→K2 a2)→Oper.quiet P ⟨dj, .move (.const y),tj,pj,afj,none⟩ a1 (fun _=>True) K2) w0 (h x Nx y Ny a1 a2 a3 a4 a5))
 refine j2L hr ?_ ?_
 · unfold hOp
   simp only[hi,hwi,if_true]
   refine .inr (.inl ⟨Ri,Mi,hMi,hvi,fun x Nx hx hfx _=>?_⟩)
   refine j9A hri ?_
   unfold hOp
   simp only[hj]
   rw[wanted_put _ a di x q1]
   simp only[hwj,if_true]
   refine .inr (.inl ⟨Rj,Mj,fun z hz=>mR (hMj z hz),fun u hu=>?_,fun y Ny hy hfy hE=>H x Nx y Ny hx hy hfx hfy hE⟩)
   have h1:=hvj u hu
   unfold FAt at *
   rw[execOp_put (ops:=ops) _ (fun cs b=>hsel j _ cs b hj) a di x q1]
   exact h1
 · unfold hOp
   simp only[hj,hwj,if_true]
   refine .inr (.inl ⟨Rj,Mj,hMj,hvj,fun y Ny hy hfy _=>?_⟩)
   refine j9A hrj ?_
   unfold hOp
   simp only[hi]
   rw[wanted_put _ a dj y q3]
   simp only[hwi,if_true]
   refine .inr (.inl ⟨Ri,Mi,fun z hz=>mR (hMi z hz),fun u hu=>?_,fun x Nx hx hfx hE=>?_⟩)
   · have h1:=hvi u hu
     unfold FAt at *
     rw[execOp_put (ops:=ops) _ (fun cs b=>hsel i _ cs b hi) a dj y q3]
     exact h1
   · have hp: ∀z,z∈Ny++(Nx++M) ↔z∈Nx++(Ny++M):=fun z=>by
      simp only[List.mem_append]
      exact or_left_comm
     have h1:=H x Nx y Ny hx hy (fun z hz=>⟨(hfx z hz).1,fun t ht=>(hfx z hz).2 t (mR ht)⟩)
      (fun z hz=>⟨(hfy z hz).1,fun t ht=>by
       rcases List.mem_append.1 ht with e|e
       · exact Ne.symm ((hfx t e).2 z (mL hz))
       · exact(hfy z hz).2 t e⟩) (hE.imp fun u hu=>hu.sub (fun z hz=>(hp z).1 hz))
     rw[Act.put_comm a _ _ q2,Array.setIfInBounds_comm _ _ hij]at h1
     exact q0u hQ _ _ _ _ _ hp h1
end
theorem q6R{l:List Tot}: ∀u∈(l.map j11).flatten,u.oneCell'=true:=fun u hu=>by
 obtain⟨x,hx,hux⟩:=List.mem_flatten.1 hu
 obtain⟨t,_,rfl⟩:=List.mem_map.1 hx
 exact j22 t u hux
def x3x:Value→Nat
  | .slice _ n _=>n
  |_=>0
theorem j9y{u:World}{g n cap:Nat}{cur:Array Value}{l:List Tot}(h:u.heap[g]?=some (.cells cur 61 (0,0)))(hl:okTs l)(hn:l.length=n)(hc:cur.toList.take (n*37)=(l.map j11).flatten):TotsIn u u.heap.size (some ⟨g,0,none⟩) l:=by
 intro hp
 refine⟨_,rfl,Row.lt (t:=61) h,fun j v hv=>?_⟩
 rw[Addr.add_mid,Nat.zero_add,cell_of_row u g j cur 61 (0,0) h]
 rw[←hc]at hv
 have hj:j<n*37:=by
  rcases Nat.lt_or_ge j (n*37)with h'|h'
  · exact h'
  · rw[gN (by rw[List.length_take];omega)]at hv
    cases hv
 rwa[List.getElem?_take_of_lt hj,Array.getElem?_toList]at hv
theorem q0A: ∀(r:List Tot)(x:Tot),(j5f x r).length≤r.length+1
 |[],x=>Nat.le_refl _
 |y::r,x=>by
  unfold j5f
  split
  · have:=q0A r (j2t y x)
    rw[List.length_cons]
    omega
  · simp
theorem q2O: ∀(r:List Tot)(x:Tot),okT x→okTs r→okTs (j5f x r)
 |[],x,hx,_=>fun t ht=>by cases mS.1 ht;exact hx
 |y::r,x,hx,hr=>by
  unfold j5f
  split
  · exact q2O r _ join_ok (fun t ht=>hr t (mT ht))
  · intro t ht
    rcases List.mem_cons.1 ht with rfl|h
    · exact hx
    · exact hr t h
theorem x11(p:List Tot)(x:Tot):(j1A p x).length≤p.length+1:=by
 unfold j1A
 rw[List.length_reverse]
 have:=q0A p.reverse x
 rwa[List.length_reverse]at this
theorem q2T{p:List Tot}{x:Tot}(hp:okTs p)(hx:okT x):okTs (j1A p x):=fun t ht=>by
 unfold j1A at ht
 exact q2O p.reverse x hx (fun s hs=>hp s (List.mem_reverse.1 hs)) t (List.mem_reverse.1 ht)
theorem q4b(l:List Tot)(x:Tot):j6L (l++[x])=j1A (j6L l) x:=by
 unfold j6L
 rw[List.foldl_append]
 rfl
theorem q9o: ∀(k:Nat)(l:List Tot),okTs l→k≤l.length→okTs (j6L (l.take k))∧(j6L (l.take k)).length≤k:=by
 intro k l hl
 induction k with
 |zero=>intro _;rw[List.take_zero];exact⟨fun t ht=>(by cases ht),Nat.le_refl _⟩
 |succ k ih=>
  intro hk
  obtain⟨h1,h2⟩:=ih (by omega)
  rw[List.take_succ_eq_append_getElem (by omega),q4b]
  refine⟨q2T h1 (hl _ (List.getElem_mem _)),?_⟩
  have:=x11 (j6L (l.take k)) l[k]
  omega
theorem q2p{p:List Tot}(hp:okTs p):okT (j3M p):=by
 have key: ∀(r:List Tot)(x:Tot),okT x→okT (upT x r):=fun r=>by
  induction r with
  |nil=>intro x hx;exact hx
  |cons y r ih=>intro x _;exact ih _ join_ok
 unfold j3M
 cases h:p.reverse with
 |nil=>exact noTot_ok
 |cons x r=>exact key r x (hp x (List.mem_reverse.1 (by rw[h];exact List.mem_cons_self ..)))
def mid(k:Int):List Int:=k::List.replicate 31 0
section
variable {a:Act}{dst:Option Tmp}{x y z:Operand}{ty:TypeId}{pos:String}{after:Array Edge}{gd:Option (Nat × Bool)}
theorem q4n{t:Tot}(h:j2z t)(u:World):(Instr.field 61 (j3j t) 0).run Tryz.prog u= .ok (idv t.h) u∧(Instr.field 61 (j3j t) 1).run Tryz.prog u= .ok (.agg (wcs t.w)) u∧(Instr.field 61 (j3j t) 2).run Tryz.prog u= .ok (.int .i64 t.n) u:=by
 have pH:=j0U aggIdT (cs:=j0E t) (off:=0) (v:=j0d 32 t.h) (by have:=j1L (q3K h);rwa[Array.toArray_toList]at this) u
 have pW:=j0U j88 (cs:=j0E t) (off:=32) (v:=wcs t.w) (by have:=j1L (q7A h);rwa[Array.toArray_toList]at this) u
 have pN:=run_part_plain (P:=Tryz.prog) u (e:=3) (by kernel_rfl) (q31 h)
 refine⟨?_,?_,?_⟩
 · simp[Instr.field,asAgg,j3j,run_underlying underlying61,pH,idv]
 · simp[Instr.field,asAgg,j3j,run_underlying underlying61,pW]
 · simp[Instr.field,asAgg,j3j,run_underlying underlying61,pN]
theorem q7o{t:Tot}(h:j2z t)(u:World)(hx:a.eval x=j3j t):(execOp a.eval ⟨dst, .field 61 x 0,ty,pos,after,gd⟩).run Tryz.prog u= .ok (.value (idv t.h)) u:=by
 unfold execOp
 simp only[hx,Sem.run_bind,(q4n h u).1,Result.andThen_ok,Sem.run_pure]
end
structure BlkR where
  h:Hd
  l:List (List Int)
  t:List TxR
deriving DecidableEq
structure TipR where
  b:BlkR
  p:List Tot
  c:List CoinR
deriving DecidableEq
def j4f:BlkR:=⟨j2H,[],[]⟩
def j27:TipR:=⟨j4f,[],[]⟩
def j0C(h:Hd):Tot:=⟨idH h,j5c h,1⟩
def j3k(bits:Nat):Hd:=⟨0,z32,j1K [],j1K [],noTot.h,0,bits,0⟩
def j4t(bits:Nat):TipR:=⟨⟨j3k bits,[],[]⟩,[j0C (j3k bits)],[]⟩
def j2S(bits:Nat):TipR × Bool:=if isC bits then (j4t bits,true)else (j27,false)
def j0H(t:TipR):List (List Int):=j5w t.b.l (idH t.b.h) (j1g t.b.h)
def j05(t:TipR)(l:List TxR)(nonce:Nat):Hd:=⟨IntKind.i64.wrap (t.b.h.height+1),idH t.b.h,j1K (j1x (j0H t)),j1K (j7E l),(j3M t.p).h,(j3M t.p).w,t.b.h.bits,nonce⟩
def j2a(t:TipR)(b:BlkR):TipR × Nat:=
  if 48≤b.h.height then (t,3)else
  if¬(b.h.height=(j05 t b.t b.h.nonce).height∧b.h.prev=(j05 t b.t b.h.nonce).prev∧b.h.bits=(j05 t b.t b.h.nonce).bits)then (t,5)else
  if¬(b.l=j0H t∧b.h.links=(j05 t b.t b.h.nonce).links)then (t,6)else
  if¬(b.h.txs=(j05 t b.t b.h.nonce).txs∧b.h.past=(j05 t b.t b.h.nonce).past∧b.h.work=(j05 t b.t b.h.nonce).work)then (t,7)else
  if j4U b.h=false then (t,4)else
  if (j0t t.c b.t).2≠0 then (t,(j0t t.c b.t).2)else (⟨b,j1A t.p (j0C b.h),(j0t t.c b.t).1⟩,0)
def j2Q(t:TipR)(l:List TxR)(nonce:Nat)(tries:Int):BlkR × Nat:=
  if 48≤(j05 t l nonce).height then (j4f,3)else
  if (j0t t.c l).2≠0 then (j4f,(j0t t.c l).2)else
  if (j3x (j05 t l nonce) tries).2=false then (j4f,4)else (⟨(j3x (j05 t l nonce) tries).1,j0H t,l⟩,0)
theorem j7I{t u:TipR}{b:BlkR}(h:j2a t b=(u,0)):b.h=j05 t b.t b.h.nonce∧b.h.height<48∧b.l=j0H t∧j4U b.h=true∧(j0t t.c b.t).2=0∧u=⟨b,j1A t.p (j0C b.h),(j0t t.c b.t).1⟩:=by
 unfold j2a at h
 split at h
 · cases h
 · rename_i h1
   split at h
   · cases h
   · rename_i h2
     split at h
     · cases h
     · rename_i h3
       split at h
       · cases h
       · rename_i h4
         split at h
         · cases h
         · rename_i h5
           split at h
           · rename_i h6
             cases hh:(j0t t.c b.t).2 with
             |zero=>exact absurd hh h6
             |succ e=>
              rw[hh]at h
              cases h
           · rename_i h6
             simp only[Classical.not_not]at h2 h3 h4 h6
             cases h
             refine⟨?_,by omega,h3.1,by simpa using h5,h6,rfl⟩
             obtain⟨hd,l,tx⟩:=b
             obtain⟨a1,a2,a3,a4,a5,a6,a7,a8⟩:=hd
             simp only[j05]at h2 h3 h4 ⊢
             obtain⟨rfl,rfl,rfl⟩:=h2
             obtain⟨-,rfl⟩:=h3
             obtain⟨rfl,rfl,rfl⟩:=h4
             rfl
theorem x2w{t:TipR}{b:BlkR}(h1:b.h=j05 t b.t b.h.nonce)(h2:b.h.height<48)(h3:b.l=j0H t)(h4:j4U b.h=true)(h5:(j0t t.c b.t).2=0):j2a t b=(⟨b,j1A t.p (j0C b.h),(j0t t.c b.t).1⟩,0):=by
 have hp:b.h.height=(j05 t b.t b.h.nonce).height∧b.h.prev=(j05 t b.t b.h.nonce).prev∧b.h.bits=(j05 t b.t b.h.nonce).bits:=by rw[←h1];exact⟨rfl,rfl,rfl⟩
 have hl:b.h.links=(j05 t b.t b.h.nonce).links:=by rw[←h1]
 have hr:b.h.txs=(j05 t b.t b.h.nonce).txs∧b.h.past=(j05 t b.t b.h.nonce).past∧b.h.work=(j05 t b.t b.h.nonce).work:=by rw[←h1];exact⟨rfl,rfl,rfl⟩
 unfold j2a
 rw[if_neg (by omega),if_neg (fun k=>k hp),if_neg (fun k=>k ⟨h3,hl⟩),if_neg (fun k=>k hr),if_neg (by rw[h4];decide),if_neg (fun k=>k h5)]
theorem x07{t u:TipR}{b:BlkR}{e:Nat}(h:j2a t b=(u,e+1)):u=t:=by
 unfold j2a at h
 split at h
 · cases h;rfl
 · split at h
   · cases h;rfl
   · split at h
     · cases h;rfl
     · split at h
       · cases h;rfl
       · split at h
         · cases h;rfl
         · split at h
           · exact(congrArg Prod.fst h).symm
           · cases h
theorem q2v{h:Hd}(k:Nat):(j0T h k).nonce<18446744073709551616:=Nat.mod_lt _ (by decide)
theorem q1f(t:TipR)(l:List TxR)(n k:Nat):j0T (j05 t l n) k=j05 t l (j0T (j05 t l n) k).nonce:=rfl
theorem j9w {t:TipR} {l:List TxR} {nonce:Nat} {tries:Int} {b:BlkR} (h:j2Q t l nonce tries=(b,0)):b.h=j05 t l b.h.nonce∧b.h.height<48∧b.l=j0H t∧b.t=l∧j4U b.h=true∧(j0t t.c l).2=0∧b.h.nonce<18446744073709551616:=by
 unfold j2Q at h
 split at h
 · cases h
 · rename_i h1
   split at h
   · rename_i h2
     cases hh:(j0t t.c l).2 with
     |zero=>exact absurd hh h2
     |succ e=>rw[hh]at h;cases h
   · rename_i h2
     split at h
     · cases h
     · rename_i h3
       simp only[Classical.not_not]at h2
       cases h
       simp only[Bool.not_eq_false]at h3
       unfold j3x at h3 ⊢
       cases hf:(List.range (min tries 200).toNat).find? (fun k=>j4U (j0T (j05 t l nonce) k))with
       |none=>rw[hf]at h3;cases h3
       |some k=>
        have hm:=List.find?_some hf
        simp only at hm ⊢
        exact⟨q1f t l nonce k,by have e:(j0T (j05 t l nonce) k).height=(j05 t l nonce).height:=rfl;omega,trivial,trivial,hm,h2,q2v k⟩
theorem q6B{t:TipR}{l:List TxR}{nonce:Nat}{tries:Int}{b:BlkR}(h:j2Q t l nonce tries=(b,0)):j2a t b=(⟨b,j1A t.p (j0C b.h),(j0t t.c l).1⟩,0):=by
 obtain⟨h1,h2,h3,rfl,h5,h6,-⟩:=j9w h
 exact x2w h1 h2 h3 h5 h6
theorem j7s{bits:Nat}(h:isC bits=true):j1g (j3k bits)=31:=by
 unfold j1g
 rw[show isC (j3k bits).bits=true from h]
 rfl
structure BlkM where
  h:Hd
  l:List (List Int)
  A1:Option Addr
  n1:Nat
  c1:Nat
  t:List TxM
  A2:Option Addr
  n2:Nat
  c2:Nat
def BlkM.r(b:BlkM):BlkR:=⟨b.h,b.l,rsT b.t⟩
structure TipM where
  b:BlkM
  p:List Tot
  A3:Option Addr
  n3:Nat
  c3:Nat
  c:List CoinR
  A4:Option Addr
  n4:Nat
  c4:Nat
def TipM.r(t:TipM):TipR:=⟨t.b.r,t.p,t.c⟩
def noBlkM:BlkM:=⟨j2H,[],none,0,0,[],none,0,0⟩
def noTipM:TipM:=⟨noBlkM,[],none,0,0,[],none,0,0⟩
def j04(b:BlkM):List Value:=hdC b.h++[.slice b.A1 b.n1 b.c1, .slice b.A2 b.n2 b.c2]
def j0L(b:BlkM):Array Value:=(j04 b).toArray
def j1O(b:BlkM):Value:= .agg (j0L b)
def q1v(t:TipM):List Value:=j04 t.b++[.slice t.A3 t.n3 t.c3, .slice t.A4 t.n4 t.c4]
def j0j(t:TipM):Array Value:=(q1v t).toArray
def j29(t:TipM):Value:= .agg (j0j t)
structure BlkOk(w:World)(b:BlkM):Prop where
  h:okHd b.h
  l1:b.l.length=b.n1
  b1:b.n1≤b.c1∧b.c1≤maxLen
  o1:isIds b.l
  m1:IdsIn w w.heap.size b.A1 b.l
  l2:b.t.length=b.n2
  b2:b.n2≤b.c2∧b.c2≤maxLen
  m2:TxsIn w b.A2 b.t
structure TipOk(w:World)(t:TipM):Prop where
  b:BlkOk w t.b
  l3:t.p.length=t.n3
  b3:t.n3≤t.c3∧t.c3≤maxLen
  o3:okTs t.p
  m3:TotsIn w w.heap.size t.A3 t.p
  l4:t.c.length=t.n4
  b4:t.n4≤t.c4∧t.c4≤maxLen
  o4:okP t.c
  m4:CoinsIn w w.heap.size t.A4 t.c
theorem BlkOk.up{w w':World}{b:BlkM}(h:BlkOk w b)(hb:Below w.heap.size w w'):BlkOk w' b:=⟨h.h,h.l1,h.b1,h.o1,h.m1.up hb,h.l2,h.b2,h.m2.up hb⟩
theorem TipOk.up{w w':World}{t:TipM}(h:TipOk w t)(hb:Below w.heap.size w w'):TipOk w' t:=⟨h.b.up hb,h.l3,h.b3,h.o3,h.m3.up hb,h.l4,h.b4,h.o4,CellsIn.up h.m4 hb⟩
theorem BlkOk.n63{w:World}{b:BlkM}(h:BlkOk w b):b.n1<9223372036854775808∧b.n2<9223372036854775808:=by
 have h1:=h.b1
 have h2:=h.b2
 unfold maxLen at h1 h2
 omega
theorem BlkOk.no(w:World):BlkOk w noBlkM:=by
 have hz:j3C z32:=⟨rfl,fun y hy=>by rw[List.eq_of_mem_replicate hy];decide⟩
 exact⟨⟨⟨by decide,by decide⟩,hz,hz,hz,hz,by decide,by decide,by decide⟩,rfl,⟨Nat.le_refl _,Nat.zero_le _⟩,(fun x h=>by cases h),(fun h=>absurd h (by decide)),rfl,⟨Nat.le_refl _,Nat.zero_le _⟩,⟨fun h=>absurd h (by decide),fun t h=>by cases h⟩⟩
theorem TipOk.no(w:World):TipOk w noTipM:=⟨BlkOk.no w,rfl,⟨Nat.le_refl _,Nat.zero_le _⟩,(fun x h=>by cases h),(fun h=>absurd h (by decide)),rfl,⟨Nat.le_refl _,Nat.zero_le _⟩,(fun x h=>by cases h),(fun h=>absurd h (by decide))⟩
theorem j0y{b:BlkM}(k:j0M b.h):(j04 b).length=137:=by unfold j04;rw[lA,j2e k];rfl
theorem j6Y{t:TipM}(k:j0M t.b.h):(q1v t).length=139:=by unfold q1v;rw[lA,j0y k];rfl
theorem j0O{b:BlkM}(k:j0M b.h):(j0L b).size=137:=by unfold j0L;rw[List.size_toArray,j0y k]
theorem j0m{t:TipM}(k:j0M t.b.h):(j0j t).size=139:=by unfold j0j;rw[List.size_toArray,j6Y k]
theorem j09(b:BlkM): ∀u∈j04 b,u.oneCell'=true:=by
 intro u hu
 unfold j04 at hu
 simp only[List.mem_append,List.mem_cons,List.not_mem_nil,or_false]at hu
 rcases hu with h|rfl|rfl
 · exact q62 _ u h
 · rfl
 · rfl
theorem q8W(t:TipM): ∀u∈q1v t,u.oneCell'=true:=by
 intro u hu
 unfold q1v at hu
 simp only[List.mem_append,List.mem_cons,List.not_mem_nil,or_false]at hu
 rcases hu with h|rfl|rfl
 · exact j09 _ u h
 · rfl
 · rfl
theorem j15(b:BlkM):(j0L b).all (·.oneCell')=true:=by
 rw[Array.all_eq_true]
 intro i hi
 exact j09 b _ (show (j0L b)[i]∈(j0L b).toList from Array.mem_toList_iff.2 (Array.getElem_mem hi))
theorem j0R(t:TipM):(j0j t).all (·.oneCell')=true:=by
 rw[Array.all_eq_true]
 intro i hi
 exact q8W t _ (show (j0j t)[i]∈(j0j t).toList from Array.mem_toList_iff.2 (Array.getElem_mem hi))
theorem aggBlk:AggT 37 137:=⟨fun w=>by simp[isAgg,run_underlying underlying37],by kernel_rfl⟩
theorem aggTip:AggT 41 139:=⟨fun w=>by simp[isAgg,run_underlying underlying41],by kernel_rfl⟩
theorem j1J(cs:Array Value)(h:cs.size=137):(Tryz.prog.info? 37).map (·.size)=some cs.size:=by rw[h];exact aggBlk.size
theorem j0K(cs:Array Value)(h:cs.size=139):(Tryz.prog.info? 41).map (·.size)=some cs.size:=by rw[h];exact aggTip.size
theorem j7A: ∀w,(isAgg 35).run Tryz.prog w= .ok false w:=fun w=>by simp[isAgg,run_underlying underlying35]
theorem q7i: ∀w,(isAgg 23).run Tryz.prog w= .ok false w:=fun w=>by simp[isAgg,run_underlying underlying23]
theorem q8S: ∀w,(isAgg 38).run Tryz.prog w= .ok false w:=fun w=>by simp[isAgg,run_underlying underlying38]
theorem q6g: ∀w,(isAgg 39).run Tryz.prog w= .ok false w:=fun w=>by simp[isAgg,run_underlying underlying39]
theorem j0B{ad:Addr}{u:World}{h:Hd}(k:j0M h)(hc: ∀(j:Nat)(v:Value),(hdC h)[j]?=some v→u.cell? (ad.add j)=some v):
   (loadVar 34 ad).run Tryz.prog u= .ok (hdV h) u∧
   (loadVar 3 ad).run Tryz.prog u= .ok (.int .i64 h.height) u∧
   (loadVar 26 (ad.add 1)).run Tryz.prog u= .ok (idv h.prev) u∧
   (loadVar 26 (ad.add 33)).run Tryz.prog u= .ok (idv h.links) u∧
   (loadVar 26 (ad.add 65)).run Tryz.prog u= .ok (idv h.txs) u∧
   (loadVar 26 (ad.add 97)).run Tryz.prog u= .ok (idv h.past) u∧
   (loadVar 32 (ad.add 129)).run Tryz.prog u= .ok (.agg (wcs h.work)) u∧
   (loadVar 27 (ad.add 133)).run Tryz.prog u= .ok (.int .u32 h.bits) u∧
   (loadVar 24 (ad.add 134)).run Tryz.prog u= .ok (.int .u64 h.nonce) u:=by
 have hadd0: ∀a:Addr,a.add 0=a:=fun a=>by unfold Addr.add;rfl
 have part: ∀(i n:Nat)(ys:List Value),((hdA h).toList.drop i).take n=ys→ ∀j v,ys[j]?=some v→u.cell? ((ad.add i).add j)=some v:=fun i n ys e j v hv=>by
   rw[show (ad.add i).add j=ad.add (i+j)by simp only[j4Y,Nat.add_assoc]]
   refine hc (i+j) v ?_
   rw[←e]at hv
   have hv':(((hdC h).drop i).take n)[j]?=some v:=hv
   rw[List.getElem?_take]at hv'
   split at hv'
   · rwa[List.getElem?_drop]at hv'
   · cases hv'
 have cell: ∀(i:Nat)(v:Value),(hdA h)[i]?=some v→u.cell? (ad.add i)=some v:=fun i v hv=>hc i v (by
   unfold hdA at hv
   rwa[List.getElem?_toArray]at hv)
 refine⟨j0F aggHd (hdC h) (j2e k) hc,j0f j1S u (by have:=cell 0 _ (j6l h);rwa[hadd0]at this),?_,?_,?_,?_,?_,j0f q7Q u (cell 133 _ (j82 k)),j0f q5N u (cell 134 _ (j5y k))⟩
 · have:=j0F aggIdT (w:=u) (ad:=ad.add 1) _ (j0g k.1) (part 1 32 _ (j9D k));rwa[j2h]at this
 · have:=j0F aggIdT (w:=u) (ad:=ad.add 33) _ (j0g k.2.1) (part 33 32 _ (j77 k));rwa[j2h]at this
 · have:=j0F aggIdT (w:=u) (ad:=ad.add 65) _ (j0g k.2.2.1) (part 65 32 _ (q2E k));rwa[j2h]at this
 · have:=j0F aggIdT (w:=u) (ad:=ad.add 97) _ (j0g k.2.2.2) (part 97 32 _ (j9k k));rwa[j2h]at this
 · have:=j0F j88 (w:=u) (ad:=ad.add 129) _ (j1j _) (part 129 4 _ (j9E k));rwa[j2h]at this
theorem j1M{b:BlkM}(k:j0M b.h):(∀(j:Nat)(v:Value),(hdC b.h)[j]?=some v→(j04 b)[j]?=some v)∧(j04 b)[135]?=some (.slice b.A1 b.n1 b.c1)∧(j04 b)[136]?=some (.slice b.A2 b.n2 b.c2):=by
 unfold j04
 refine⟨fun j v hj=>?_,?_,?_⟩
 · rw[List.getElem?_append_left]
   · exact hj
   · rcases Nat.lt_or_ge j (hdC b.h).length with h|h
     · exact h
     · rw[gN h]at hj;cases hj
 · rw[List.getElem?_append_right (by rw[j2e k];omega),j2e k];rfl
 · rw[List.getElem?_append_right (by rw[j2e k];omega),j2e k];rfl
theorem j4y{t:TipM}(k:j0M t.b.h):(∀(j:Nat)(v:Value),(j04 t.b)[j]?=some v→(q1v t)[j]?=some v)∧(q1v t)[137]?=some (.slice t.A3 t.n3 t.c3)∧(q1v t)[138]?=some (.slice t.A4 t.n4 t.c4):=by
 unfold q1v
 refine⟨fun j v hj=>?_,?_,?_⟩
 · rw[List.getElem?_append_left]
   · exact hj
   · rcases Nat.lt_or_ge j (j04 t.b).length with h|h
     · exact h
     · rw[gN h]at hj;cases hj
 · rw[List.getElem?_append_right (by rw[j0y k];omega),j0y k];rfl
 · rw[List.getElem?_append_right (by rw[j0y k];omega),j0y k];rfl
section
variable {w0 u:World}{M:j0e}{g:Nat}{ty:TypeId}{b:BlkM}{t:TipM}
theorem j1a{cs:List Value}(hu:EnvC w0 M u)(hm:(g,oc cs.toArray ty)∈M): ∀(j:Nat)(v:Value),cs[j]?=some v→u.cell? ((⟨g,0,none⟩:Addr).add j)=some v:=fun j v hj=>by
 rw[show (⟨g,0,none⟩:Addr).add j=⟨g,j,none⟩by rw[Addr.add_mid,Nat.zero_add]]
 exact j0n hu hm (by rw[List.getElem?_toArray];exact hj)
theorem q2i(hu:EnvC w0 M u)(hm:(g,oc (j0L b) ty)∈M)(k:j0M b.h):(loadVar 37 ⟨g,0,none⟩).run Tryz.prog u= .ok (j1O b) u:=j0F aggBlk (j04 b) (j0y k) (j1a hu hm)
instance:Cell Tryz.prog (j0L b) 37 0 (j1O b) (j0M b.h):=⟨fun hu hm k=>q2i hu hm k⟩
theorem j02(hu:EnvC w0 M u)(hm:(g,oc (j0L b) ty)∈M)(k:j0M b.h): ∀(j:Nat)(v:Value),(hdC b.h)[j]?=some v→u.cell? ((⟨g,0,none⟩:Addr).add j)=some v:=fun j v hj=>j1a hu hm j v ((j1M k).1 j v hj)
theorem q6p(hu:EnvC w0 M u)(hm:(g,oc (j0L b) ty)∈M)(k:j0M b.h):(loadVar 35 ⟨g,135,none⟩).run Tryz.prog u= .ok (.slice b.A1 b.n1 b.c1) u:=j0f j7A u (by have:=j1a hu hm 135 _ (j1M k).2.1;rwa[show (⟨g,0,none⟩:Addr).add 135=⟨g,135,none⟩by rw[Addr.add_mid,Nat.zero_add]]at this)
instance:Cell Tryz.prog (j0L b) 35 135 (.slice b.A1 b.n1 b.c1) (j0M b.h):=⟨fun hu hm k=>q6p hu hm k⟩
theorem q51(hu:EnvC w0 M u)(hm:(g,oc (j0L b) ty)∈M)(k:j0M b.h):(loadVar 23 ⟨g,136,none⟩).run Tryz.prog u= .ok (.slice b.A2 b.n2 b.c2) u:=j0f q7i u (by have:=j1a hu hm 136 _ (j1M k).2.2;rwa[show (⟨g,0,none⟩:Addr).add 136=⟨g,136,none⟩by rw[Addr.add_mid,Nat.zero_add]]at this)
instance:Cell Tryz.prog (j0L b) 23 136 (.slice b.A2 b.n2 b.c2) (j0M b.h):=⟨fun hu hm k=>q51 hu hm k⟩
theorem x2M(hu:EnvC w0 M u)(hm:(g,oc (j0j t) ty)∈M)(k:j0M t.b.h):(loadVar 41 ⟨g,0,none⟩).run Tryz.prog u= .ok (j29 t) u:=j0F aggTip (q1v t) (j6Y k) (j1a hu hm)
instance:Cell Tryz.prog (j0j t) 41 0 (j29 t) (j0M t.b.h):=⟨fun hu hm k=>x2M hu hm k⟩
theorem q1C(hu:EnvC w0 M u)(hm:(g,oc (j0j t) ty)∈M)(k:j0M t.b.h):(loadVar 37 ⟨g,0,none⟩).run Tryz.prog u= .ok (j1O t.b) u:=j0F aggBlk (j04 t.b) (j0y k) fun j v hj=>j1a hu hm j v ((j4y k).1 j v hj)
instance:Cell Tryz.prog (j0j t) 37 0 (j1O t.b) (j0M t.b.h):=⟨fun hu hm k=>q1C hu hm k⟩
theorem j8K(hu:EnvC w0 M u)(hm:(g,oc (j0j t) ty)∈M)(k:j0M t.b.h): ∀(j:Nat)(v:Value),(hdC t.b.h)[j]?=some v→u.cell? ((⟨g,0,none⟩:Addr).add j)=some v:=fun j v hj=>j1a hu hm j v ((j4y k).1 j v ((j1M k).1 j v hj))
theorem q6s(hu:EnvC w0 M u)(hm:(g,oc (j0j t) ty)∈M)(k:j0M t.b.h):(loadVar 35 ⟨g,135,none⟩).run Tryz.prog u= .ok (.slice t.b.A1 t.b.n1 t.b.c1) u:=j0f j7A u (by have:=j1a hu hm 135 _ ((j4y k).1 _ _ (j1M k).2.1);rwa[show (⟨g,0,none⟩:Addr).add 135=⟨g,135,none⟩by rw[Addr.add_mid,Nat.zero_add]]at this)
instance:Cell Tryz.prog (j0j t) 35 135 (.slice t.b.A1 t.b.n1 t.b.c1) (j0M t.b.h):=⟨fun hu hm k=>q6s hu hm k⟩
theorem q7d(hu:EnvC w0 M u)(hm:(g,oc (j0j t) ty)∈M)(k:j0M t.b.h):(loadVar 38 ⟨g,137,none⟩).run Tryz.prog u= .ok (.slice t.A3 t.n3 t.c3) u:=j0f q8S u (by have:=j1a hu hm 137 _ (j4y k).2.1;rwa[show (⟨g,0,none⟩:Addr).add 137=⟨g,137,none⟩by rw[Addr.add_mid,Nat.zero_add]]at this)
instance:Cell Tryz.prog (j0j t) 38 137 (.slice t.A3 t.n3 t.c3) (j0M t.b.h):=⟨fun hu hm k=>q7d hu hm k⟩
theorem q7a(hu:EnvC w0 M u)(hm:(g,oc (j0j t) ty)∈M)(k:j0M t.b.h):(loadVar 39 ⟨g,138,none⟩).run Tryz.prog u= .ok (.slice t.A4 t.n4 t.c4) u:=j0f q6g u (by have:=j1a hu hm 138 _ (j4y k).2.2;rwa[show (⟨g,0,none⟩:Addr).add 138=⟨g,138,none⟩by rw[Addr.add_mid,Nat.zero_add]]at this)
instance:Cell Tryz.prog (j0j t) 39 138 (.slice t.A4 t.n4 t.c4) (j0M t.b.h):=⟨fun hu hm k=>q7a hu hm k⟩
end
section
variable {a:Act}{dst:Option Tmp}{x y:Operand}{ty:TypeId}{pos:String}{after:Array Edge}{gd:Option (Nat × Bool)}
theorem j1P{k off:Nat}(hk:([(0,0),(1,135),(2,136)]:List (Nat × Nat)).lookup k=some off){ad:Addr}(u:World)(hx:a.eval x= .pointer (some ad)):
  (execOp a.eval ⟨dst, .fieldAddr 37 x k,ty,pos,after,gd⟩).run Tryz.prog u= .ok (.value (.pointer (some (ad.add off)))) u:=by
 unfold execOp
 simp only[hx]
 rcases k with _|_|_|k
 all_goals first|(cases hk;go_simp)|cases hk
instance:FldT Tryz.prog 37 [(0,0),(1,135),(2,136)]:=⟨fun h u k=>j1P h u k⟩
theorem q1R{k off:Nat}(hk:([(0,0),(1,137),(2,138)]:List (Nat × Nat)).lookup k=some off){ad:Addr}(u:World)(hx:a.eval x= .pointer (some ad)):
  (execOp a.eval ⟨dst, .fieldAddr 41 x k,ty,pos,after,gd⟩).run Tryz.prog u= .ok (.value (.pointer (some (ad.add off)))) u:=by
 unfold execOp
 simp only[hx]
 rcases k with _|_|_|k
 all_goals first|(cases hk;go_simp)|cases hk
instance:FldT Tryz.prog 41 [(0,0),(1,137),(2,138)]:=⟨fun h u k=>q1R h u k⟩
end
end Go.Proofs.YtojmeodoenkapaaGreatDoor
