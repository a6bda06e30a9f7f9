/- Part of a proof. -/
import Derived.Test.YtojmeodoenkapaaGreatDoorYb
import Derived.Laws.OwnMore
import Derived.Deep.WholeRow
import Derived.Deep.Strs
import Derived.WalkKit
import Derived.ProofKit
import Derived.Handy
import Derived.Lib.SlBytesConst
import Derived.Deep.MidRow
import Derived.Laws.CopyOwn
import Derived.Laws.MakeOwn
import Derived.Deep.Cut
import Derived.Deep.QuietTactic
import Derived.BigQuiet
import Derived.StillTailTactics
import Derived.Lib.Hide
import Derived.ChangeKeysEq
import Derived.Deep.RegionHeld3
import Derived.Deep.DrawnRows
import Derived.Deep.RegionLaw
import Derived.Deep.DeepCutAuto
import Derived.BigRegion
import Derived.RegionTactic
open Go.Proofs.Tryz
namespace Go.Proofs.YtojmeodoenkapaaGreatDoor
set_option maxRecDepth 20000
set_option maxHeartbeats 8000000
set_option linter.unusedVariables false
set_option linter.unusedSimpArgs false
open Go.RowKit
section
variable {st e:TypeId}{z bytes:Nat}{zero:Value}
def SrcAt(u:World)(ad:Addr)(ys:List Value):Prop:= ∀j c,ys[j]?=some c→u.cell? (ad.add j)=some c
theorem src_box{w0 u:World}{M:Boxes}{g:Nat}{t:TypeId}{cs:Array Value}{ys:List Value}(hu:EnvC w0 M u)(hm:(g,oc cs t)∈M){k:Nat}(h:(cs.toList.drop k).take ys.length=ys):SrcAt u ⟨g,k,none⟩ ys:=by
 intro j c hc
 rw[Addr.add_mid]
 refine box_cell hu hm ?_
 have hj:j<ys.length:=by
  rcases Nat.lt_or_ge j ys.length with h'|h'
  · exact h'
  · rw[gN h']at hc;cases hc
 rw[←h,List.getElem?_take_of_lt hj,List.getElem?_drop,Array.getElem?_toList]at hc
 exact hc
theorem appX_op(T:ElemT st e z bytes zero){w0 u:World}{M:Boxes}(M0:Boxes){N:Boxes}{n m c:Nat}{xs:List Value}{v:Value}{ys:List Value}{ad:Addr}{a:Act}{dst:Option Tmp}{y x:Operand}{pos:String}{after:Array Edge}{gd:Option (Nat × Bool)}
   (hu:EnvX w0 u M) (hl:xs.length=n*z) (hy:ys.length=m*z) (h1: ∀u∈ys,u.oneCell'=true) (hF:FreshR e z n xs v N) (hN: ∀y∈N,y∈M∧w0.heap.size≤y.1) (hc:SrcAt u ad ys) (hM0: ∀z∈M0,z∈M∧ ∀y∈N,z.1≠y.1) (hs:n+m≤2000000)
   (hyv:a.eval y=v) (hx:a.eval x= .slice (some ad) m c):
   ∃v' u' M',(execOp a.eval ⟨dst, .call {callee:= .builtin .append,args:= #[y,x],argTypes:= #[st,st]},st,pos,after,gd⟩).run Tryz.prog u= .ok (.value v') u'∧EnvX w0 u' M'∧GrownR w0 e z (n+m) (xs++ys) M0 v' M':=by
 have hown:u.ownsRow w0.heap.size e z v n xs:=hF.own hl (fun y hy=>⟨(hN y hy).2,hu.box _ _ (hN y hy).1⟩)
 obtain⟨v',u',hrun,hown',hgr,hob⟩:=appendR T (c:=c) hown hy hc h1 hs hu.bel.size
 obtain⟨N',hF',hN'⟩:=fresh_of_own hown'
 refine⟨v',u',N'++M0,?_,?_,N',rfl,hF',?_⟩
 · unfold execOp
   simp only[resolve,invoke,builtin,Sem.run_bind,Sem.run_pure,Result.andThen_ok,List.map_toArray,List.map_cons,List.map_nil,hyv,hx,hrun]
 · have hbel:Below w0.heap.size u u':=below_of_grown hgr (fun r hr=>(hown.lt r hr).1) hu.bel.size
   refine⟨hu.bel.trans hbel,fun g' o hm=>?_⟩
   rcases List.mem_append.1 hm with e|e
   · exact(hN' _ e).2.1
   · have hin:=hM0 _ e
     rw[hgr.block g' (hu.lt hin.1) (fun e2=>by
      obtain⟨o2,ho2⟩:=hF.block g' e2.symm
      exact hin.2 _ ho2 rfl)]
     exact hu.box _ _ hin.1
 · intro y hy
   refine⟨(hN' y hy).1,fun z hz e=>?_⟩
   have hb:=(hN' y hy).2.2
   have hin:=hM0 z hz
   rcases hob with h|h
   · obtain⟨o2,ho2⟩:=hF.block y.1 (h.symm.trans hb)
     exact hin.2 _ ho2 e
   · have h1:=hu.lt (g:=z.1) (o:=z.2) hin.1
     have h2:u.heap.size=y.1:=Option.some.inj (h.symm.trans hb)
     omega
end
theorem run_callV{P:Program}{a:Act}{x:Operand}{f:FuncId}{caps args all:Array Value}{xs:Array Operand}{ats:Array TypeId}{fn:Func}{c:Code}{dst:Option Tmp}{ty:TypeId}{pos:String}{after:Array Edge}{gd:Option (Nat × Bool)}(hx:a.eval x= .func (.func f) #[] caps)(hargs:xs.toList.map a.eval=args.toList)
  (hall:args.toList++caps.toList=all.toList) (hfn:P.funcs[f]?=some fn) (hname:(fn.name== "runtime.NumGoroutine")=false) (hb:fn.body=some c) (u:World):
  (execOp a.eval ⟨dst, .call {callee:= .value x,args:=xs,argTypes:=ats},ty,pos,after,gd⟩).run P u= .ok (.enter f all) u:=by
 have ha:xs.map a.eval=args:=by
  apply Array.ext'
  rw[Array.toList_map]
  exact hargs
 have h2:args++caps=all:=by
  apply Array.ext'
  rw[Array.toList_append]
  exact hall
 unfold execOp
 simp only[resolve,hx,ha,Deferred.ofValue,invoke,Sem.run_bind,Sem.run_pure,Result.andThen_ok,Array.empty_append,h2]
 exact run_enter hfn hname hb _ u
section
variable {P:Program}{Γ:HP}{l:List Oper}{C:World→Prop}{Q:Act→Prop}{a:Act}{i:Nat}{rest:List Nat}{dst:Option Tmp}{ty:TypeId}{pos:String}{after:Array Edge}{gd:Option (Nat × Bool)}
theorem wpG_callV{f:FuncId}{x:Operand}{xs:Array Operand}{ats:Array TypeId}{fn:Func}{c:Code}{v:Value}{args caps all:Array Value}(ho:l[i]?=some ⟨dst, .call {callee:= .value x,args:=xs,argTypes:=ats},ty,pos,after,gd⟩)
  (hw:Region.wanted ⟨dst, .call {callee:= .value x,args:=xs,argTypes:=ats},ty,pos,after,gd⟩ (yielded l.toArray a.tmps)=true)
  (hx:a.eval x= .func (.func f) #[] caps) (hargs:xs.toList.map a.eval=args.toList) (hall:args.toList++caps.toList=all.toList) (hfn:P.funcs[f]?=some fn) (hname:(fn.name== "runtime.NumGoroutine")=false) (hb:fn.body=some c)
  (hcall: ∀u,C u→Calls P f all u (fun e w''=>e= .returned v∧Below u.heap.size u w''))
  (h: ∀K:Act→Prop,(∀a,wpG P l C Q rest a→K a)→Oper.quiet P ⟨dst, .move (.const v),ty,pos,after,gd⟩ a C K) {u0:World} (h0:C u0):wpG P l C Q (i::rest) a:=by
 refine⟨?_⟩
 unfold wpG0
 simp only[ho]
 rw[if_pos hw]
 obtain⟨v',hv,hK⟩:=h (wpG0 P l C Q rest) (fun _ h=>h.out)
 have e:v'=v:=by
  have h1:=hv u0 h0
  unfold Oper.quietAt execOp at h1
  exact h1.2.symm
 rw[e]at hK
 refine⟨v,fun u hu=>?_,hK⟩
 unfold GAt
 rw[run_callV hx hargs hall hfn hname hb u]
 exact⟨rfl,hcall u hu⟩
theorem hOp_putAt{P:Program}{ops:Array Oper}{w0:World}{i:Nat}{K:Act→Boxes→Prop}{a:Act}{M:Boxes}{ty:TypeId}{pos:String}{after:Array Edge}{ty':TypeId}{x y:Operand}(ho:ops[i]?=some ⟨none, .store ty' x y,ty,pos,after,none⟩)
 (g k:Nat) (v:Value) (hx:a.eval x= .pointer (some ⟨g,k,none⟩)) (hy:a.eval y=v) (hg:w0.heap.size≤g) (t:TypeId) (old cs:Array Value) (hm:(g,oc old t)∈M)
 (hi:(P.info? ty').map (·.size)=some v.cells.size) (hk:k+v.cells.size≤old.size) (h1:v.cells.all (·.oneCell')=true) (hcs:old.toList.take k++v.cells.toList++old.toList.drop (k+v.cells.size)=cs.toList) (M':Boxes) (hM': ∀x∈M',x=(g,oc cs t)∨(x∈M∧x.1≠g))
 (h:(∃u,EnvX w0 u M')→K a M') (hkeep: ∀x∈Γ.keep i,x∈M→x∈M':=by exact no_keep):hOp (Γ:=Γ) P ops w0 i K a M:=hOp_storeAt ho g k v hx hy hg t old cs hm hi hk h1 hcs M' hM' h hkeep
end
section
variable {a:Act}{dst:Option Tmp}{x y:Operand}{ty:TypeId}{pos:String}{after:Array Edge}{gd:Option (Nat × Bool)}
theorem sizeOf_info{e:TypeId}{z:Nat}(h:(Tryz.prog.info? e).map (·.size)=some z)(u:World):(sizeOf e).run Tryz.prog u= .ok z u:=by
 cases hq:Tryz.prog.info? e with
 |none=>rw[hq]at h;cases h
 |some k=>
  rw[hq]at h
  simp only[Option.map_some,Option.some.injEq]at h
  simp[sizeOf,typeInfo,hq,h]
theorem idxArr_op{t e:TypeId}{len z:Nat}(hu:Tryz.prog.underlying t=some (.array len e))(hz:(Tryz.prog.info? e).map (·.size)=some z){g o i:Nat}(hi:i<len)(u:World)
  (hx:a.eval x= .pointer (some ⟨g,o,none⟩)) (hy:a.eval y= .int .i64 (i:Int)):
  (execOp a.eval ⟨dst, .indexAddr t x y,ty,pos,after,gd⟩).run Tryz.prog u= .ok (.value (.pointer (some ⟨g,o+i*z,none⟩))) u:=by
 have hl:Tryz.prog.arrayLen t=len:=by simp[Program.arrayLen,hu]
 have he:Tryz.prog.elem t=e:=by simp[Program.elem,hu]
 have hr:=run_indexAt_array (P:=Tryz.prog) u t ⟨g,o,none⟩ .i64 (i:Int) (by rw[hl,he];exact hu)
 rw[hl,he,if_pos ⟨by omega,by omega⟩,sizeOf_info hz u,Result.andThen_ok,Int.toNat_natCast,Addr.add_mid]at hr
 unfold execOp
 simp only[hx,hy,Sem.run_bind,Sem.run_pure,hr,Result.andThen_ok]
theorem idxSl_op{t e:TypeId}{z:Nat}(hu:Tryz.prog.underlying t=some (.slice e))(hz:(Tryz.prog.info? e).map (·.size)=some z){ad:Addr}{n c i:Nat}(hi:i<n)(u:World)
  (hx:a.eval x= .slice (some ad) n c) (hy:a.eval y= .int .i64 (i:Int)):
  (execOp a.eval ⟨dst, .indexAddr t x y,ty,pos,after,gd⟩).run Tryz.prog u= .ok (.value (.pointer (some (ad.add (i*z))))) u:=by
 have he:Tryz.prog.elem t=e:=by simp[Program.elem,hu]
 have hr:=run_indexAt_slice (P:=Tryz.prog) u t ad n c .i64 (i:Int) (by rw[he];exact hu)
 rw[he,if_pos ⟨by omega,by omega⟩,sizeOf_info hz u,Result.andThen_ok,Int.toNat_natCast]at hr
 unfold execOp
 simp only[hx,hy,Sem.run_bind,Sem.run_pure,hr,Result.andThen_ok]
theorem len_op{t e:TypeId}(hu:Tryz.prog.underlying t=some (.slice e)){A:Option Addr}{n c:Nat}(hn:n<9223372036854775808)(u:World)(hx:a.eval x= .slice A n c):
  (execOp a.eval ⟨dst, .call {callee:= .builtin .len,args:= #[x],argTypes:= #[t]},ty,pos,after,gd⟩).run Tryz.prog u= .ok (.value (.int .i64 (n:Int))) u:=by
 have he:Tryz.prog.elem t=e:=by simp[Program.elem,hu]
 have hr:=run_len_slice (P:=Tryz.prog) u t ty A n c (by rw[he];exact hu)
 have hg:goInt n= .int .i64 (n:Int):=rfl
 unfold execOp
 simp only[resolve,invoke,builtin,Sem.run_bind,Sem.run_pure,Result.andThen_ok,List.map_toArray,List.map_cons,List.map_nil,hx,hr,hg]
theorem new_of{t:TypeId}{z:Value}{n:Nat}(h:(Tryz.prog.info? t).map (fun i=>(i.zero,i.size))=some (some z,n))(a:Act):NewAt Tryz.prog ⟨dst, .alloc t,ty,pos,after,gd⟩ a (.cells z.cells t (0,0)):=fun u=>by
 have hz:=(zero_of_info h).1
 unfold execOp
 simp[Instr.alloc,hz,newVar,newRow]
end
theorem u8_one{xs:List Int}: ∀u∈xs.map u8v,u.oneCell'=true:=fun u hu=>by
 obtain⟨z,_,rfl⟩:=List.mem_map.1 hu
 rfl
theorem EnvX.three{w:World}(o1 o2 o3:Obj):EnvX w (((w.alloc o1).alloc o2).alloc o3) [(w.heap.size+1+1,o3),(w.heap.size+1,o2),(w.heap.size,o1)]:=by
 have h:=((EnvX.start w).two o1 o2).new o3
 have hs:((w.alloc o1).alloc o2).heap.size=w.heap.size+1+1:=by simp
 rw[hs]at h
 exact h
theorem zero_totA:(#[Value.int .u8 0,Value.int .u8 0,Value.int .u8 0,Value.int .u8 0,Value.int .u8 0,Value.int .u8 0,Value.int .u8 0,Value.int .u8 0,Value.int .u8 0,Value.int .u8 0,Value.int .u8 0,Value.int .u8 0,Value.int .u8 0,Value.int .u8 0,Value.int .u8 0,Value.int .u8 0,Value.int .u8 0,Value.int .u8 0,Value.int .u8 0,Value.int .u8 0,Value.int .u8 0,Value.int .u8 0,Value.int .u8 0,Value.int .u8 0,Value.int .u8 0,Value.int .u8 0,Value.int .u8 0,Value.int .u8 0,Value.int .u8 0,Value.int .u8 0,Value.int .u8 0,Value.int .u8 0,Value.int .u64 0,Value.int .u64 0,Value.int .u64 0,Value.int .u64 0,Value.int .i64 0]:Array Value)=totA zTot:=by kernel_rfl
theorem zero_wcs:(#[Value.int .u64 0,Value.int .u64 0,Value.int .u64 0,Value.int .u64 0]:Array Value)=wcs 0:=rfl
section
variable {a:Act}{dst:Option Tmp}{x y z:Operand}{ty:TypeId}{pos:String}{after:Array Edge}{gd:Option (Nat × Bool)}
theorem conv_u64_op{n:Int}{m:Nat}(u:World)(h:IntKind.u64.wrap n=(m:Int))(hx:a.eval x= .int .i64 n):
  (execOp a.eval ⟨dst, .convert 3 24 x,ty,pos,after,gd⟩).run Tryz.prog u= .ok (.value (.int .u64 (m:Int))) u:=by
 rw[←h]
 unfold execOp
 simp only[hx]
 go_simp
theorem new_wd(a:Act):NewAt Tryz.prog ⟨dst, .alloc 32,ty,pos,after,gd⟩ a (.cells (wcs 0) 32 (0,0)):=fun u=>by
 rw[←zero_wcs]
 go_simp
theorem new_tot(a:Act):NewAt Tryz.prog ⟨dst, .alloc 61,ty,pos,after,gd⟩ a (.cells (totA zTot) 61 (0,0)):=fun u=>by
 rw[←zero_totA]
 go_simp
theorem FAt_byte1(k:Int)(u:World):FAt Tryz.prog ⟨dst, .buildSlice 100 1 #[(0, .const (.int .u8 k))],ty,pos,after,gd⟩ a (fun v N=> ∃g,v= .slice (some ⟨g,0,none⟩) 1 1∧N=[(g,oc #[.int .u8 k] 5)]) u:=by
 have h:(execOp a.eval ⟨dst, .buildSlice 100 1 #[(0, .const (.int .u8 k))],ty,pos,after,gd⟩).run Tryz.prog u= .ok (.value (.slice (some ⟨u.heap.size,0,none⟩) 1 1)) (u.alloc (.cells #[.int .u8 k] 5)):=by
  unfold execOp
  go_simp
 unfold FAt
 rw[h]
 refine⟨(Below.refl _ _).alloc (Nat.le_refl _) _,_,⟨_,rfl,rfl⟩,fun y hy=>?_⟩
 cases mS.1 hy
 exact⟨Nat.le_refl _,heap_alloc_new u _⟩
theorem FAt_rows3{A0 A1 A2:Option Addr}{n0 n1 n2 c0 c1 c2:Nat}(hx:a.eval x= .slice A0 n0 c0)(hy:a.eval y= .slice A1 n1 c1)(hz:a.eval z= .slice A2 n2 c2)(u:World):
  FAt Tryz.prog ⟨dst, .buildSlice 139 3 #[(0,x),(1,y),(2,z)],ty,pos,after,gd⟩ a (fun v N=> ∃g,v= .slice (some ⟨g,0,none⟩) 3 3∧N=[(g,oc #[.slice A0 n0 c0, .slice A1 n1 c1, .slice A2 n2 c2] 100)]) u:=by
 have h:(execOp a.eval ⟨dst, .buildSlice 139 3 #[(0,x),(1,y),(2,z)],ty,pos,after,gd⟩).run Tryz.prog u= .ok (.value (.slice (some ⟨u.heap.size,0,none⟩) 3 3)) (u.alloc (.cells #[.slice A0 n0 c0, .slice A1 n1 c1, .slice A2 n2 c2] 100)):=by
  unfold execOp
  simp only[List.map_toArray,List.map_cons,List.map_nil,hx,hy,hz]
  go_simp
 unfold FAt
 rw[h]
 refine⟨(Below.refl _ _).alloc (Nat.le_refl _) _,_,⟨_,rfl,rfl⟩,fun y hy=>?_⟩
 cases mS.1 hy
 exact⟨Nat.le_refl _,heap_alloc_new u _⟩
theorem addW_op{m k:Int}(u:World)(hx:a.eval x= .int .i64 m)(hy:a.eval y= .int .i64 k):
  (execOp a.eval ⟨dst, .binOp .add 3 x y 3,ty,pos,after,gd⟩).run Tryz.prog u= .ok (.value (.int .i64 (IntKind.i64.wrap (m+k)))) u:=by
 unfold execOp
 simp only[hx,hy]
 go_simp
end
theorem arrId_map{h:List Int}(hh:h.length=32):(arrB 32 h).toList=h.map u8v:=by
 unfold arrB
 rw[hh]
 simp
theorem t_src{t:Tot}(h:len32 t):((totA t).toList.drop 0).take (t.h.map u8v).length=t.h.map u8v:=by
 have:=totC_H h
 rw[arrId_map h]at this
 rwa[lM,h]
theorem b_src(n:Nat):((arrB 32 (listF (bytesOf n))).toList.drop 0).take ((listF (bytesOf n)).map u8v).length=(listF (bytesOf n)).map u8v:=by
 rw[arrId_map (listF_len _),List.drop_zero,List.take_length]
theorem partT_len{t:Tot}(h:len32 t):(partT t).length=68:=by
 unfold partT
 rw[lA,lA,listF_len,putL_len,h]
theorem partT_byte{t:Tot}(h:okT t): ∀x∈partT t,0≤x∧x≤255:=fun x hx=>by
 unfold partT at hx
 rcases List.mem_append.1 hx with e|e
 · exact h.1.2 x e
 · rcases List.mem_append.1 e with e|e
   · obtain⟨i,_,rfl⟩:=List.mem_map.1 e
     have:=byteAt_lt t.w i
     unfold bytesOf
     omega
   · exact putL_byte _ 4 x e
theorem box_wide{w0 u:World}{M:Boxes}{g:Nat}{ty:TypeId}{n:Nat}(hu:EnvC w0 M u)(hm:(g,oc (wcs n) ty)∈M):(loadVar 32 ⟨g,0,none⟩).run Tryz.prog u= .ok (.agg (wcs n)) u:=by
 have:=box_agg aggWd (k:=0) hu hm (wcs n).toList (wcs_list n) (by rw[List.drop_zero,tL (by rw[wcs_list];omega)])
 rwa[agg_list]at this
theorem parts_three{w:World}{B g:Nat}{a a' a'':Option Addr}{c c' c'':Nat}{xs ys zs:List Int}(hg:g<B)(hc:w.cell? ⟨g,0,none⟩=some (.slice a xs.length c))(hx:Bytes w B a xs)(hr: ∀x∈xs,0≤x∧x≤255)
   (hc':w.cell? ⟨g,1,none⟩=some (.slice a' ys.length c')) (hy:Bytes w B a' ys) (hr': ∀x∈ys,0≤x∧x≤255) (hc'':w.cell? ⟨g,2,none⟩=some (.slice a'' zs.length c'')) (hz:Bytes w B a'' zs) (hr'': ∀x∈zs,0≤x∧x≤255):Parts w B (some ⟨g,0,none⟩) [xs,ys,zs]:=by
 intro k vs hk
 rcases k with _|_|_|k
 · obtain rfl:xs=vs:=by simpa using hk
   exact⟨g,0,a,c,rfl,hg,hc,hx,hr⟩
 · obtain rfl:ys=vs:=by simpa using hk
   exact⟨g,0,a',c',rfl,hg,hc',hy,hr'⟩
 · obtain rfl:zs=vs:=by simpa using hk
   exact⟨g,0,a'',c'',rfl,hg,hc'',hz,hr''⟩
 · simp at hk
theorem boxR_bytes{w0 u:World}{M:Boxes}{g cap n:Nat}{cur:Array Value}{xs:List Int}(hu:EnvC w0 M u)(hm:(g,oc cur 5)∈M)(hl:xs.length=n)(h:n≤cap∧cap≤maxLen∧cur.size=cap*1∧cur.toList.take (n*1)=xs.map u8v):Bytes u u.heap.size (some ⟨g,0,none⟩) xs:=by
 subst hl
 exact box_bytes hu hm h
theorem sumL_id(xs:List Int):(sumL xs).length=32∧ ∀x∈sumL xs,0≤x∧x≤255:=⟨sumL_len _,sumL_byte _⟩
theorem join_ok{a b:Tot}:okT (joinT a b):=by
 refine⟨sumL_id _,Nat.mod_lt _ (by unfold Big;decide),?_⟩
 unfold joinT
 simp only
 rw[IntKind.wrap_i64]
 omega
theorem infoTot(cs:Array Value)(h:cs.size=37):(Tryz.prog.info? 61).map (·.size)=some cs.size:=by rw[h];exact aggTot.size
theorem noTot_ok:okT noTot:=⟨sumL_id _,by unfold Big;decide,by decide,by decide⟩
theorem isRows.flat_take{z:Nat}{L:List (List Value)}(h:isRows z L)(k:Nat):(L.take k).flatten=L.flatten.take (k*z):=by
 induction L generalizing k with
 |nil=>simp
 | cons x L ih=>
  have hx:=h x (List.mem_cons_self ..)
  cases k with
  |zero=>simp
  |succ k=>
   have hk:(k+1)*z- z=k*z:=by rw[Nat.succ_mul];omega
   rw[List.take_succ_cons,List.flatten_cons,List.flatten_cons,ih (fun y hy=>h y (mT hy)),List.take_append,tL (by rw[hx,Nat.succ_mul];omega:x.length≤(k+1)*z),hx,hk]
theorem isRows.flat_drop{z:Nat}{L:List (List Value)}(h:isRows z L)(k:Nat):(L.drop k).flatten=L.flatten.drop (k*z):=by
 induction L generalizing k with
 |nil=>simp
 | cons x L ih=>
  have hx:=h x (List.mem_cons_self ..)
  cases k with
  |zero=>simp
  |succ k=>
   have hk:(k+1)*z- z=k*z:=by rw[Nat.succ_mul];omega
   rw[List.drop_succ_cons,List.flatten_cons,ih (fun y hy=>h y (mT hy)),List.drop_append,List.drop_of_length_le (by rw[hx,Nat.succ_mul];omega:x.length≤(k+1)*z),hx,hk,List.nil_append]
def cutX(z:Nat)(A:Option Addr)(l c:Nat):Option Addr:=if c=l then A else A.map (·.add (l*z))
theorem CellsIn.drop{w:World}{B:Nat}{A:Option Addr}{xs:List Value}(h:CellsIn w B A xs)(z k c:Nat)(hc:k<c∨xs.length≤k*z):CellsIn w B (cutX z A k c) (xs.drop (k*z)):=by
 intro hp
 rw[List.length_drop]at hp
 obtain⟨ad,rfl,hlt,hcell⟩:=h (by omega)
 have hne: ¬c=k:=by rcases hc with h|h<;>omega
 refine⟨ad.add (k*z),by simp[cutX,hne],by rw[block_of_add];exact hlt,fun j v hv=>?_⟩
 rw[add_addN]
 refine hcell (k*z+j) v ?_
 rwa[List.getElem?_drop]at hv
section
variable {st e:TypeId}{z bytes:Nat}{zero:Value}
theorem ElemT.elem(T:ElemT st e z bytes zero):Tryz.prog.elem st=e:=by simp[Program.elem,T.und]
theorem ElemT.sizeOf(T:ElemT st e z bytes zero)(w:World):(Go.sizeOf e).run Tryz.prog w= .ok z w:=by
 have h:=T.info
 cases hq:Tryz.prog.info? e with
 |none=>rw[hq]at h;cases h
 |some i=>
  rw[hq]at h
  simp only[Option.map_some,Option.some.injEq,Prod.mk.injEq]at h
  simp[Go.sizeOf,typeInfo,hq,h.2.1]
theorem run_cutX_h(T:ElemT st e z bytes zero)(A:Option Addr)(n c h:Nat)(w:World)(h2:h≤c):
  (Instr.sliceAt st (.slice A n c) none (some (.int .i64 (h:Int))) none).run Tryz.prog w= .ok (.slice A h c) w:=by
 have ht':Tryz.prog.underlying st=some (.slice (Tryz.prog.elem st)):=by rw[T.elem];exact T.und
 rw[run_sliceAt_slice w _ _ _ _ _ ht',run_slice_h w st _ _ _ ht' .i64 _ (by omega) (by omega),T.elem,T.sizeOf]
 have e:(fun a:Addr=>a.add (0*z))=id:=by
  funext a
  simp[Addr.add]
 simp only[Result.andThen,sliced,e,Option.map_id,Int.toNat_natCast,Nat.sub_zero,ite_self,id]
theorem run_cutX_l(T:ElemT st e z bytes zero)(A:Option Addr)(n c l:Nat)(w:World)(h1:l≤n):
  (Instr.sliceAt st (.slice A n c) (some (.int .i64 (l:Int))) none none).run Tryz.prog w= .ok (.slice (cutX z A l c) (n- l) (c- l)) w:=by
 have ht':Tryz.prog.underlying st=some (.slice (Tryz.prog.elem st)):=by rw[T.elem];exact T.und
 rw[run_sliceAt_slice w _ _ _ _ _ ht',run_slice_l w st _ _ _ ht' .i64 _ (by omega) (by omega),T.elem,T.sizeOf]
 simp[Result.andThen,sliced,cutX]
theorem run_cutX_lh(T:ElemT st e z bytes zero)(A:Option Addr)(n c l h:Nat)(w:World)(h1:l≤h)(h2:h≤c):
  (Instr.sliceAt st (.slice A n c) (some (.int .i64 (l:Int))) (some (.int .i64 (h:Int))) none).run Tryz.prog w= .ok (.slice (cutX z A l c) (h- l) (c- l)) w:=by
 have ht':Tryz.prog.underlying st=some (.slice (Tryz.prog.elem st)):=by rw[T.elem];exact T.und
 rw[run_sliceAt_slice w _ _ _ _ _ ht',run_slice_lh w st _ _ _ ht' .i64 .i64 _ _ (by omega) (by omega) (by omega),T.elem,T.sizeOf]
 simp[Result.andThen,sliced,cutX]
variable {a:Act}{dst:Option Tmp}{x l h:Operand}{ty:TypeId}{pos:String}{after:Array Edge}{gd:Option (Nat × Bool)}
theorem cutXh_op(T:ElemT st e z bytes zero){A:Option Addr}{n c j:Nat}(u:World)(h2:j≤c)(hx:a.eval x= .slice A n c)(hh:a.eval h= .int .i64 (j:Int)):
  (execOp a.eval ⟨dst, .slice st x none (some h) none,ty,pos,after,gd⟩).run Tryz.prog u= .ok (.value (.slice A j c)) u:=by
 unfold execOp
 simp only[hx,hh,Option.map_some,Option.map_none,Sem.run_bind,Sem.run_pure,Result.andThen_ok,run_cutX_h T A n c j u h2]
theorem cutXl_op(T:ElemT st e z bytes zero){A:Option Addr}{n c j:Nat}(u:World)(h2:j≤n)(hx:a.eval x= .slice A n c)(hh:a.eval l= .int .i64 (j:Int)):
  (execOp a.eval ⟨dst, .slice st x (some l) none none,ty,pos,after,gd⟩).run Tryz.prog u= .ok (.value (.slice (cutX z A j c) (n- j) (c- j))) u:=by
 unfold execOp
 simp only[hx,hh,Option.map_some,Option.map_none,Sem.run_bind,Sem.run_pure,Result.andThen_ok,run_cutX_l T A n c j u h2]
theorem cutXlh_op(T:ElemT st e z bytes zero){A:Option Addr}{n c i j len:Nat}(u:World)(h1:i≤j)(h2:j≤c)(hlen:j- i=len)(hx:a.eval x= .slice A n c)(hl:a.eval l= .int .i64 (i:Int))(hh:a.eval h= .int .i64 (j:Int)):
  (execOp a.eval ⟨dst, .slice st x (some l) (some h) none,ty,pos,after,gd⟩).run Tryz.prog u= .ok (.value (.slice (cutX z A i c) len (c- i))) u:=by
 subst hlen
 unfold execOp
 simp only[hx,hl,hh,Option.map_some,Option.map_none,Sem.run_bind,Sem.run_pure,Result.andThen_ok,run_cutX_lh T A n c i j u h1 h2]
end
section
variable {st e:TypeId}{z bytes:Nat}{zero:Value}
theorem FreshR.formC{e:TypeId}{z n:Nat}{xs:List Value}{x:Value}{N:Boxes}(h:FreshR e z n xs x N): ∃A c,x= .slice A n c∧n≤c∧c≤maxLen:=by
 rcases h with ⟨g,cap,cur,rfl,_,h1,h2,_⟩|⟨h1,_,h3,h4⟩
 · exact⟨_,_,rfl,h1,h2⟩
 · first|(subst h3;exact⟨none,0,h1,Nat.le_refl _,Nat.zero_le _⟩)|(subst h4;exact⟨none,0,h1,Nat.le_refl _,Nat.zero_le _⟩)
end
theorem wrapS{x:Int}(h: -9223372036854775808≤x∧x≤9223372036854775807):IntKind.i64.wrap x=x:=by rw[IntKind.wrap_i64];omega
section
variable {a:Act}{dst:Option Tmp}{x y:Operand}{ty:TypeId}{pos:String}{after:Array Edge}{gd:Option (Nat × Bool)}
theorem ltZ_op{m k:Int}{b:Bool}(u:World)(hb:decide (m<k)=b)(hx:a.eval x= .int .i64 m)(hy:a.eval y= .int .i64 k):
  (execOp a.eval ⟨dst, .binOp .lss 3 x y 3,ty,pos,after,gd⟩).run Tryz.prog u= .ok (.value (.bool b)) u:=by
 subst hb
 unfold execOp
 simp only[hx,hy]
 go_simp
theorem gtZ_op{m k:Int}{b:Bool}(u:World)(hb:decide (k<m)=b)(hx:a.eval x= .int .i64 m)(hy:a.eval y= .int .i64 k):
  (execOp a.eval ⟨dst, .binOp .gtr 3 x y 3,ty,pos,after,gd⟩).run Tryz.prog u= .ok (.value (.bool b)) u:=by
 subst hb
 unfold execOp
 simp only[hx,hy]
 go_simp
theorem leZ_op{m k:Int}{b:Bool}(u:World)(hb:decide (m≤k)=b)(hx:a.eval x= .int .i64 m)(hy:a.eval y= .int .i64 k):
  (execOp a.eval ⟨dst, .binOp .leq 3 x y 3,ty,pos,after,gd⟩).run Tryz.prog u= .ok (.value (.bool b)) u:=by
 subst hb
 unfold execOp
 simp only[hx,hy]
 go_simp
theorem neZ_op{m k:Int}{b:Bool}(u:World)(hb:decide (m≠k)=b)(hx:a.eval x= .int .i64 m)(hy:a.eval y= .int .i64 k):
  (execOp a.eval ⟨dst, .binOp .neq 3 x y 3,ty,pos,after,gd⟩).run Tryz.prog u= .ok (.value (.bool b)) u:=by
 have e:(m !=k)=b:=by rw[←hb];by_cases h:m=k<;>simp[h]
 subst e
 unfold execOp
 simp only[hx,hy]
 go_simp
theorem geZ_op{m k:Int}{b:Bool}(u:World)(hb:decide (k≤m)=b)(hx:a.eval x= .int .i64 m)(hy:a.eval y= .int .i64 k):
  (execOp a.eval ⟨dst, .binOp .geq 3 x y 3,ty,pos,after,gd⟩).run Tryz.prog u= .ok (.value (.bool b)) u:=by
 subst hb
 unfold execOp
 simp only[hx,hy]
 go_simp
theorem addZ_op{m k r:Int}(u:World)(hr:IntKind.i64.wrap (m+k)=r)(hx:a.eval x= .int .i64 m)(hy:a.eval y= .int .i64 k):
  (execOp a.eval ⟨dst, .binOp .add 3 x y 3,ty,pos,after,gd⟩).run Tryz.prog u= .ok (.value (.int .i64 r)) u:=by
 subst hr
 unfold execOp
 simp only[hx,hy]
 go_simp
theorem subZ_op{m k r:Int}(u:World)(hr:IntKind.i64.wrap (m- k)=r)(hx:a.eval x= .int .i64 m)(hy:a.eval y= .int .i64 k):
  (execOp a.eval ⟨dst, .binOp .sub 3 x y 3,ty,pos,after,gd⟩).run Tryz.prog u= .ok (.value (.int .i64 r)) u:=by
 subst hr
 unfold execOp
 simp only[hx,hy]
 go_simp
end
def inC(x:InR):List Value:=(arrB 32 x.tx).toList++[.int .i64 x.i]
def inA(x:InR):Array Value:=(inC x).toArray
def inV(x:InR):Value:= .agg (inA x)
def lenI(x:InR):Prop:=x.tx.length=32
def noIn:InR:=⟨[],0⟩
theorem okIn.len{x:InR}(h:okIn x):lenI x:=h.1.1
theorem inC_len{x:InR}(h:lenI x):(inC x).length=33:=by
 unfold inC
 rw[lA,idA_list h]
 rfl
theorem inA_size{x:InR}(h:lenI x):(inA x).size=33:=by unfold inA;rw[List.size_toArray,inC_len h]
theorem inC_one(x:InR): ∀u∈inC x,u.oneCell'=true:=by
 intro u hu
 unfold inC at hu
 rcases List.mem_append.1 hu with h|h
 · exact cell_of_all (arrB_one 32 _) u h
 · cases mS.1 h
   rfl
theorem inA_one(x:InR):(inA x).all (·.oneCell')=true:=by
 rw[Array.all_eq_true]
 intro i hi
 exact inC_one x _ (show (inA x)[i]∈(inA x).toList from Array.mem_toList_iff.2 (Array.getElem_mem hi))
theorem aggIn:AggT 133 33:=⟨fun w=>by simp[isAgg,run_underlying underlying133],by kernel_rfl⟩
theorem elIn:ElemT 74 133 33 40 (inV noIn):=⟨underlying74,by kernel_rfl,by decide+kernel,by decide,by decide,by decide⟩
theorem infoIn(cs:Array Value)(h:cs.size=33):(Tryz.prog.info? 133).map (·.size)=some cs.size:=by rw[h];exact aggIn.size
theorem inC_tx{x:InR}(h:lenI x):((inA x).toList.drop 0).take 32=(arrB 32 x.tx).toList:=by
 unfold inA inC
 rw[List.drop_zero,List.take_left' (idA_list h)]
theorem inC_i{x:InR}(h:lenI x):(inC x)[32]?=some (.int .i64 x.i):=by
 unfold inC
 rw[List.getElem?_append_right (by rw[idA_list h];omega),idA_list h]
 rfl
def outC(o:OutR):List Value:=[.int .i64 o.v, .int .i64 o.tw]
def outA(o:OutR):Array Value:=(outC o).toArray
def outV(o:OutR):Value:= .agg (outA o)
def noOut:OutR:=⟨0,0⟩
theorem outA_size(o:OutR):(outA o).size=2:=rfl
theorem outC_one(o:OutR): ∀u∈outC o,u.oneCell'=true:=by
 intro u hu
 unfold outC at hu
 simp only[List.mem_cons,List.not_mem_nil,or_false]at hu
 rcases hu with rfl|rfl<;>rfl
theorem outA_one(o:OutR):(outA o).all (·.oneCell')=true:=by
 rw[Array.all_eq_true]
 intro i hi
 exact outC_one o _ (show (outA o)[i]∈(outA o).toList from Array.mem_toList_iff.2 (Array.getElem_mem hi))
theorem aggOut:AggT 135 2:=⟨fun w=>by simp[isAgg,run_underlying underlying135],by kernel_rfl⟩
theorem elOut:ElemT 75 135 2 16 (outV noOut):=⟨underlying75,by kernel_rfl,by decide+kernel,by decide,by decide,by decide⟩
theorem infoOut(cs:Array Value)(h:cs.size=2):(Tryz.prog.info? 135).map (·.size)=some cs.size:=by rw[h];exact aggOut.size
section
variable {w0 u:World}{M:Boxes}{g:Nat}{ty:TypeId}{x:InR}{o:OutR}
theorem box_in(hu:EnvC w0 M u)(hm:(g,oc (inA x) ty)∈M)(h:lenI x):(loadVar 133 ⟨g,0,none⟩).run Tryz.prog u= .ok (inV x) u:=by
 have:=box_agg aggIn (k:=0) hu hm (inC x) (inC_len h) (by unfold inA;rw[List.drop_zero,tL (by rw[inC_len h];omega)])
 exact this
instance:Cell Tryz.prog (inA x) 133 0 (inV x) (lenI x):=⟨fun hu hm k=>box_in hu hm k⟩
theorem box_in_tx(hu:EnvC w0 M u)(hm:(g,oc (inA x) ty)∈M)(h:lenI x):(loadVar 26 ⟨g,0,none⟩).run Tryz.prog u= .ok (idv x.tx) u:=by
 have:=box_agg aggIdT (k:=0) hu hm _ (idA_list h) (inC_tx h)
 rwa[agg_list]at this
instance:Cell Tryz.prog (inA x) 26 0 (idv x.tx) (lenI x):=⟨fun hu hm k=>box_in_tx hu hm k⟩
theorem box_in_i(hu:EnvC w0 M u)(hm:(g,oc (inA x) ty)∈M)(h:lenI x):(loadVar 3 ⟨g,32,none⟩).run Tryz.prog u= .ok (.int .i64 x.i) u:=
 run_load_one oneInt u (box_cell hu hm (by unfold inA;rw[List.getElem?_toArray];exact inC_i h))
instance:Cell Tryz.prog (inA x) 3 32 (.int .i64 x.i) (lenI x):=⟨fun hu hm k=>box_in_i hu hm k⟩
theorem src_in_tx{x:InR}(h:lenI x):((inA x).toList.drop 0).take (x.tx.map u8v).length=x.tx.map u8v:=by
 have:=inC_tx h
 rw[arrId_map h]at this
 rwa[lM,h]
theorem box_out(hu:EnvC w0 M u)(hm:(g,oc (outA o) ty)∈M):(loadVar 135 ⟨g,0,none⟩).run Tryz.prog u= .ok (outV o) u:=by
 have:=box_agg aggOut (k:=0) hu hm (outC o) rfl rfl
 exact this
instance:Cell Tryz.prog (outA o) 135 0 (outV o) (True):=⟨fun hu hm k=>box_out hu hm⟩
theorem box_out_v(hu:EnvC w0 M u)(hm:(g,oc (outA o) ty)∈M):(loadVar 3 ⟨g,0,none⟩).run Tryz.prog u= .ok (.int .i64 o.v) u:=
 run_load_one oneInt u (box_cell hu hm rfl)
instance:Cell Tryz.prog (outA o) 3 0 (.int .i64 o.v) (True):=⟨fun hu hm k=>box_out_v hu hm⟩
theorem box_out_to(hu:EnvC w0 M u)(hm:(g,oc (outA o) ty)∈M):(loadVar 3 ⟨g,1,none⟩).run Tryz.prog u= .ok (.int .i64 o.tw) u:=
 run_load_one oneInt u (box_cell hu hm rfl)
instance:Cell Tryz.prog (outA o) 3 1 (.int .i64 o.tw) (True):=⟨fun hu hm k=>box_out_to hu hm⟩
end
theorem built_in{tx:List Int}{i:Int}(h:tx.length=32):Tryz.prog.built 133 [(0,idv tx),(1, .int .i64 i)]=some (inA ⟨tx,i⟩):=by
 have hs:(arrB 32 tx).size=32:=arrB_size _ _ (by omega)
 have e:cellsOfP [(0,idv tx),(1, .int .i64 i)]=inC ⟨tx,i⟩:=by simp[cellsOfP,inC,idv,Value.cells]
 have:=built_struct (t:=133) (n:=33) underlying133 (by kernel_rfl) (places:=[(0,32),(32,1)]) (by kernel_rfl) (ps:=[(0,idv tx),(1, .int .i64 i)]) (by
  refine⟨?_,?_,trivial⟩
  · show some (0,32)=some (0,(arrB 32 tx).size)
    rw[hs]
  · show some (32,1)=some (0+(arrB 32 tx).size,1)
    rw[hs]) (by rw[e,inC_len (x:=⟨tx,i⟩) h])
 rw[this,e]
 rfl
def InsIn(w:World)(B:Nat)(A:Option Addr)(l:List InR):Prop:=CellsIn w B A (l.map inC).flatten
def OutsIn(w:World)(B:Nat)(A:Option Addr)(l:List OutR):Prop:=CellsIn w B A (l.map outC).flatten
def okIns(l:List InR):Prop:= ∀x∈l,okIn x
def okOuts(l:List OutR):Prop:= ∀x∈l,okOut x
theorem rowsIn{l:List InR}(h:okIns l):isRows 33 (l.map inC):=fun x hx=>by
 obtain⟨t,ht,rfl⟩:=List.mem_map.1 hx
 exact inC_len (h t ht).len
theorem rowsOut(l:List OutR):isRows 2 (l.map outC):=fun x hx=>by
 obtain⟨t,ht,rfl⟩:=List.mem_map.1 hx
 rfl
theorem okIns.get{l:List InR}(h:okIns l){i:Nat}(hi:i<l.length):okIn (l.getD i noIn):=by
 rw[gD,gE hi]
 exact h _ (List.getElem_mem hi)
theorem okOuts.get{l:List OutR}(h:okOuts l){i:Nat}(hi:i<l.length):okOut (l.getD i noOut):=by
 rw[gD,gE hi]
 exact h _ (List.getElem_mem hi)
theorem okIns.take{l:List InR}(h:okIns l)(k:Nat):okIns (l.take k):=fun x hx=>h x (List.mem_of_mem_take hx)
theorem row_cells{α:Type}{C:α→List Value}{z:Nat}{w:World}{B:Nat}{A:Option Addr}{l:List α}{d:α}(h:CellsIn w B A (l.map C).flatten)(hR:isRows z (l.map C))(z0:0<z){i:Nat}(hi:i<l.length):
  ∃ad,A=some ad∧ad.block<B∧ ∀j v,(C (l.getD i d))[j]?=some v→w.cell? ((ad.add (i*z)).add j)=some v:=by
 have hfl:=hR.flat_len
 rw[lM]at hfl
 have hp:0<l.length*z:=Nat.mul_pos (by omega) z0
 obtain⟨ad,e,hb,hc⟩:=h (by rw[hfl];exact hp)
 have hg:(l.map C).getD i []=C (l.getD i d):=by
  rw[gD,List.getElem?_map,gE hi,gD,gE hi]
  rfl
 refine⟨ad,e,hb,fun j v hv=>?_⟩
 rw[add_addN]
 refine hc (i*z+j) v ?_
 have hj:j<z:=by
  rcases Nat.lt_or_ge j z with h'|h'
  · exact h'
  · have:=hR.get (i:=i) (by rw[lM];exact hi)
    rw[hg]at this
    rw[gN (by rw[this];exact h')]at hv
    cases hv
 rw[hR.flat_get i j (by rw[lM];exact hi) hj,hg]
 exact hv
theorem InsIn.loads{w:World}{A:Option Addr}{l:List InR}(h:InsIn w w.heap.size A l)(hl:okIns l){k:Nat}(hk:k<l.length): ∃ad,A=some ad∧ad.block<w.heap.size∧ ∀u,EnvX w u []→
   (loadVar 133 (ad.add (k*33))).run Tryz.prog u= .ok (inV (l.getD k noIn)) u∧
   (loadVar 26 (ad.add (k*33))).run Tryz.prog u= .ok (idv (l.getD k noIn).tx) u∧
   (loadVar 3 ((ad.add (k*33)).add 32)).run Tryz.prog u= .ok (.int .i64 (l.getD k noIn).i) u∧
   SrcAt u (ad.add (k*33)) ((l.getD k noIn).tx.map u8v):=by
 obtain⟨ad,e,hb,hc⟩:=row_cells (d:=noIn) h (rowsIn hl) (by decide) hk
 refine⟨ad,e,hb,fun u hu=>?_⟩
 have h32:=(hl.get hk).len
 have hcu: ∀j v,(inC (l.getD k noIn))[j]?=some v→u.cell? ((ad.add (k*33)).add j)=some v:=fun j v hv=>by
   rw[←hc j v hv]
   exact(EnvX.bel hu).cell (by rw[block_of_add,block_of_add];exact hb)
 generalize l.getD k noIn=t at *
 refine⟨run_loadAgg aggIn (inC t) (inC_len h32) hcu,?_,run_load_one oneInt u (hcu 32 _ (inC_i h32)),?_⟩
 · have:=run_loadAgg aggIdT (w:=u) (ad:=ad.add (k*33)) _ (idA_list h32) (fun j v hv=>hcu j v (by
    unfold inC
    rw[List.getElem?_append_left (by
      rcases Nat.lt_or_ge j (arrB 32 t.tx).toList.length with h'|h'
      · exact h'
      · rw[gN h']at hv;cases hv)]
    exact hv))
   rwa[agg_list]at this
 · intro j c hcj
   refine hcu j c ?_
   have hj:j<(arrB 32 t.tx).toList.length:=by
    rw[arrId_map h32]
    rcases Nat.lt_or_ge j (t.tx.map u8v).length with h'|h'
    · exact h'
    · rw[gN h']at hcj;cases hcj
   unfold inC
   rw[List.getElem?_append_left hj,arrId_map h32]
   exact hcj
theorem OutsIn.loads{w:World}{A:Option Addr}{l:List OutR}(h:OutsIn w w.heap.size A l){k:Nat}(hk:k<l.length): ∃ad,A=some ad∧ad.block<w.heap.size∧ ∀u,EnvX w u []→
  (loadVar 135 (ad.add (k*2))).run Tryz.prog u= .ok (outV (l.getD k noOut)) u∧
  (loadVar 3 (ad.add (k*2))).run Tryz.prog u= .ok (.int .i64 (l.getD k noOut).v) u∧
  (loadVar 3 ((ad.add (k*2)).add 1)).run Tryz.prog u= .ok (.int .i64 (l.getD k noOut).tw) u:=by
 obtain⟨ad,e,hb,hc⟩:=row_cells (d:=noOut) h (rowsOut l) (by decide) hk
 refine⟨ad,e,hb,fun u hu=>?_⟩
 have hcu: ∀j v,(outC (l.getD k noOut))[j]?=some v→u.cell? ((ad.add (k*2)).add j)=some v:=fun j v hv=>by
  rw[←hc j v hv]
  exact(EnvX.bel hu).cell (by rw[block_of_add,block_of_add];exact hb)
 generalize l.getD k noOut=t at *
 have hadd0: ∀a:Addr,a.add 0=a:=fun a=>by unfold Addr.add;rfl
 refine⟨run_loadAgg aggOut (outC t) rfl hcu,run_load_one oneInt u (by have:=hcu 0 _ rfl;rwa[hadd0]at this),run_load_one oneInt u (hcu 1 _ rfl)⟩
theorem fieldsIn:(Tryz.prog.fieldsOf 133).toList.map (fun f=>(f.name== "_",f.type,f.offset))=[(false,26,0),(false,3,32)]:=by kernel_rfl
theorem fieldsOut:(Tryz.prog.fieldsOf 135).toList.map (fun f=>(f.name== "_",f.type,f.offset))=[(false,3,0),(false,3,1)]:=by kernel_rfl
def eqI(a b:InR):Bool:=decide (a=b)
def eqO(a b:OutR):Bool:=decide (a=b)
theorem run_equal_in(a b:InR)(ha:lenI a)(hb:lenI b)(w:World):(Op.equal 133 (inV a) (inV b)).run Tryz.prog w= .ok (eqI a b) w:=by
 unfold Op.equal inV
 have h:=run_equalIn_struct (P:=Tryz.prog) w 9999 133 (inA a) (inA b) (by kernel_rfl) (by kernel_rfl)
 refine Eq.trans h ?_
 have hf:=fieldsIn
 generalize (Tryz.prog.fieldsOf 133).toList=fs at hf ⊢
 have hl:fs.length=2:=by simpa using congrArg List.length hf
 obtain⟨f1,f2,rfl⟩: ∃f1 f2,fs=[f1,f2]:=by
  match fs,hl with
  |[a,b],_=>exact⟨a,b,rfl⟩
 simp only[List.map_cons,List.map_nil,List.cons.injEq,Prod.mk.injEq,beq_eq_false_iff_ne,and_true]at hf
 obtain⟨⟨n1,t1,o1⟩,n2,t2,o2⟩:=hf
 have pT: ∀t:InR,lenI t→(part 26 (inA t) 0).run Tryz.prog w= .ok (.agg (arrB 32 t.tx)) w:=fun t ht=>run_part_agg aggIdT (by have:=ext_list (inC_tx ht);rwa[Array.toArray_toList]at this) w
 have pI: ∀t:InR,lenI t→(part 3 (inA t) 32).run Tryz.prog w= .ok (.int .i64 t.i) w:=fun t ht=>run_part_plain (P:=Tryz.prog) w (by kernel_rfl) (by unfold inA;rw[List.getElem?_toArray];exact inC_i ht)
 have e1:=run_equalIn_id 9997 a.tx b.tx ha hb w
 have e2:=run_equalIn_int (P:=Tryz.prog) w 9998 3 .i64 .i64 a.i b.i underlying3
 have hd:eqI a b=(eqL a.tx b.tx&& (a.i==b.i)):=by
  unfold eqI eqL
  rw[Bool.eq_iff_iff]
  simp only[decide_eq_true_eq,Bool.and_eq_true,beq_iff_eq]
  exact⟨fun h=>by subst h;exact⟨rfl,rfl⟩,fun h=>by cases a;cases b;simp only at h;rw[h.1,h.2]⟩
 rw[hd]
 rw[eqFields_step (a:= .agg (arrB 32 a.tx)) (b:= .agg (arrB 32 b.tx)) n1 (by rw[t1,o1];exact pT a ha) (by rw[t1,o1];exact pT b hb) (by rw[t1];exact e1)]
 cases eqL a.tx b.tx with
 |false=>rfl
 |true=>
  rw[if_pos rfl,eqFields_step (a:= .int .i64 a.i) (b:= .int .i64 b.i) n2 (by rw[t2,o2];exact pI a ha) (by rw[t2,o2];exact pI b hb) (by rw[t2];exact e2)]
  cases hab:(a.i==b.i)with
  |false=>rfl
  |true=>rfl
theorem run_equal_out(a b:OutR)(w:World):(Op.equal 135 (outV a) (outV b)).run Tryz.prog w= .ok (eqO a b) w:=by
 unfold Op.equal outV
 have h:=run_equalIn_struct (P:=Tryz.prog) w 9999 135 (outA a) (outA b) (by kernel_rfl) (by kernel_rfl)
 refine Eq.trans h ?_
 have hf:=fieldsOut
 generalize (Tryz.prog.fieldsOf 135).toList=fs at hf ⊢
 have hl:fs.length=2:=by simpa using congrArg List.length hf
 obtain⟨f1,f2,rfl⟩: ∃f1 f2,fs=[f1,f2]:=by
  match fs,hl with
  |[a,b],_=>exact⟨a,b,rfl⟩
 simp only[List.map_cons,List.map_nil,List.cons.injEq,Prod.mk.injEq,beq_eq_false_iff_ne,and_true]at hf
 obtain⟨⟨n1,t1,o1⟩,n2,t2,o2⟩:=hf
 have pV: ∀t:OutR,(part 3 (outA t) 0).run Tryz.prog w= .ok (.int .i64 t.v) w:=fun t=>run_part_plain (P:=Tryz.prog) w (by kernel_rfl) rfl
 have pT: ∀t:OutR,(part 3 (outA t) 1).run Tryz.prog w= .ok (.int .i64 t.tw) w:=fun t=>run_part_plain (P:=Tryz.prog) w (by kernel_rfl) rfl
 have e1:=run_equalIn_int (P:=Tryz.prog) w 9998 3 .i64 .i64 a.v b.v underlying3
 have e2:=run_equalIn_int (P:=Tryz.prog) w 9998 3 .i64 .i64 a.tw b.tw underlying3
 have hd:eqO a b=((a.v==b.v) && (a.tw==b.tw)):=by
  unfold eqO
  rw[Bool.eq_iff_iff]
  simp only[decide_eq_true_eq,Bool.and_eq_true,beq_iff_eq]
  exact⟨fun h=>by subst h;exact⟨rfl,rfl⟩,fun h=>by cases a;cases b;simp only at h;rw[h.1,h.2]⟩
 rw[hd]
 rw[eqFields_step (a:= .int .i64 a.v) (b:= .int .i64 b.v) n1 (by rw[t1,o1];exact pV a) (by rw[t1,o1];exact pV b) (by rw[t1];exact e1)]
 cases (a.v==b.v)with
 |false=>rfl
 |true=>
  rw[if_pos rfl,eqFields_step (a:= .int .i64 a.tw) (b:= .int .i64 b.tw) n2 (by rw[t2,o2];exact pT a) (by rw[t2,o2];exact pT b) (by rw[t2];exact e2)]
  cases hab:(a.tw==b.tw)with
  |false=>rfl
  |true=>rfl
theorem zero_inA:(#[Value.int .u8 0,Value.int .u8 0,Value.int .u8 0,Value.int .u8 0,Value.int .u8 0,Value.int .u8 0,Value.int .u8 0,Value.int .u8 0,Value.int .u8 0,Value.int .u8 0,Value.int .u8 0,Value.int .u8 0,Value.int .u8 0,Value.int .u8 0,Value.int .u8 0,Value.int .u8 0,Value.int .u8 0,Value.int .u8 0,Value.int .u8 0,Value.int .u8 0,Value.int .u8 0,Value.int .u8 0,Value.int .u8 0,Value.int .u8 0,Value.int .u8 0,Value.int .u8 0,Value.int .u8 0,Value.int .u8 0,Value.int .u8 0,Value.int .u8 0,Value.int .u8 0,Value.int .u8 0,Value.int .i64 0]:Array Value)=inA noIn:=rfl
theorem zero_outA:(#[Value.int .i64 0,Value.int .i64 0]:Array Value)=outA noOut:=rfl
theorem guardIn:Tryz.prog.eqGuardType Tryz.prog.depth 133=false:=by kernel_rfl
theorem guardOut:Tryz.prog.eqGuardType Tryz.prog.depth 135=false:=by kernel_rfl
section
variable {a:Act}{dst:Option Tmp}{x y:Operand}{ty:TypeId}{pos:String}{after:Array Edge}{gd:Option (Nat × Bool)}
theorem eqlIn_op{s t:InR}{b:Bool}(hs:lenI s)(ht:lenI t)(hb:eqI s t=b)(u:World)(hx:a.eval x=inV s)(hy:a.eval y=inV t):
  (execOp a.eval ⟨dst, .binOp .eql 133 x y 133,ty,pos,after,gd⟩).run Tryz.prog u= .ok (.value (.bool b)) u:=by
 have h0:=run_equal_in s t hs ht u
 have h:(binOp .eql 133 (inV s) (inV t)).run Tryz.prog u= .ok (.bool (eqI s t)) u:=by
  unfold inV at *
  simp only[binOp]
  simp[h0]
 have hg:=run_eqGuard_agg (P:=Tryz.prog) u .eql 133 x y (inA s) (inA t) guardIn
 rw[←hb]
 unfold inV at *
 unfold execOp
 simp only[hx,hy,Sem.run_bind,hg,Result.andThen_ok,h,Sem.run_pure]
theorem neqIn_op{s t:InR}{b:Bool}(hs:lenI s)(ht:lenI t)(hb:(!eqI s t)=b)(u:World)(hx:a.eval x=inV s)(hy:a.eval y=inV t):
  (execOp a.eval ⟨dst, .binOp .neq 133 x y 133,ty,pos,after,gd⟩).run Tryz.prog u= .ok (.value (.bool b)) u:=by
 have h0:=run_equal_in s t hs ht u
 have h:(binOp .neq 133 (inV s) (inV t)).run Tryz.prog u= .ok (.bool (!eqI s t)) u:=by
  unfold inV at *
  simp only[binOp]
  simp[h0]
 have hg:=run_eqGuard_agg (P:=Tryz.prog) u .neq 133 x y (inA s) (inA t) guardIn
 rw[←hb]
 unfold inV at *
 unfold execOp
 simp only[hx,hy,Sem.run_bind,hg,Result.andThen_ok,h,Sem.run_pure]
theorem neqOut_op{s t:OutR}{b:Bool}(hb:(!eqO s t)=b)(u:World)(hx:a.eval x=outV s)(hy:a.eval y=outV t):
  (execOp a.eval ⟨dst, .binOp .neq 135 x y 135,ty,pos,after,gd⟩).run Tryz.prog u= .ok (.value (.bool b)) u:=by
 have h0:=run_equal_out s t u
 have h:(binOp .neq 135 (outV s) (outV t)).run Tryz.prog u= .ok (.bool (!eqO s t)) u:=by
  unfold outV at *
  simp only[binOp]
  simp[h0]
 have hg:=run_eqGuard_agg (P:=Tryz.prog) u .neq 135 x y (outA s) (outA t) guardOut
 rw[←hb]
 unfold outV at *
 unfold execOp
 simp only[hx,hy,Sem.run_bind,hg,Result.andThen_ok,h,Sem.run_pure]
theorem fieldOut_op{k off:Nat}(hk:([(0,0),(1,1)]:List (Nat × Nat)).lookup k=some off){ad:Addr}(u:World)(hx:a.eval x= .pointer (some ad)):
  (execOp a.eval ⟨dst, .fieldAddr 135 x k,ty,pos,after,gd⟩).run Tryz.prog u= .ok (.value (.pointer (some (ad.add off)))) u:=by
 unfold execOp
 simp only[hx]
 rcases k with _|_|k
 all_goals first|(cases hk;go_simp)|cases hk
instance:FldT Tryz.prog 135 [(0,0),(1,1)]:=⟨fun h u k=>fieldOut_op h u k⟩
theorem fieldIn_op{k off:Nat}(hk:([(0,0),(1,32)]:List (Nat × Nat)).lookup k=some off){ad:Addr}(u:World)(hx:a.eval x= .pointer (some ad)):
  (execOp a.eval ⟨dst, .fieldAddr 133 x k,ty,pos,after,gd⟩).run Tryz.prog u= .ok (.value (.pointer (some (ad.add off)))) u:=by
 unfold execOp
 simp only[hx]
 rcases k with _|_|k
 all_goals first|(cases hk;go_simp)|cases hk
instance:FldT Tryz.prog 133 [(0,0),(1,32)]:=⟨fun h u k=>fieldIn_op h u k⟩
theorem fieldTx_op{k off:Nat}(hk:([(0,0),(1,1)]:List (Nat × Nat)).lookup k=some off){ad:Addr}(u:World)(hx:a.eval x= .pointer (some ad)):
  (execOp a.eval ⟨dst, .fieldAddr 77 x k,ty,pos,after,gd⟩).run Tryz.prog u= .ok (.value (.pointer (some (ad.add off)))) u:=by
 unfold execOp
 simp only[hx]
 rcases k with _|_|k
 all_goals first|(cases hk;go_simp)|cases hk
instance:FldT Tryz.prog 77 [(0,0),(1,1)]:=⟨fun h u k=>fieldTx_op h u k⟩
theorem new_in(a:Act):NewAt Tryz.prog ⟨dst, .alloc 133,ty,pos,after,gd⟩ a (.cells (inA noIn) 133 (0,0)):=fun u=>by
 rw[←zero_inA]
 go_simp
theorem new_out(a:Act):NewAt Tryz.prog ⟨dst, .alloc 135,ty,pos,after,gd⟩ a (.cells (outA noOut) 135 (0,0)):=fun u=>by
 rw[←zero_outA]
 go_simp
end
structure TxM where
  r:TxR
  A1:Option Addr
  n1:Nat
  c1:Nat
  A2:Option Addr
  n2:Nat
  c2:Nat
def txC(t:TxM):List Value:=[.slice t.A1 t.n1 t.c1, .slice t.A2 t.n2 t.c2]
def txA(t:TxM):Array Value:=(txC t).toArray
def txV(t:TxM):Value:= .agg (txA t)
def noTxM:TxM:=⟨noTx,none,0,0,none,0,0⟩
structure TxOk(w:World)(t:TxM):Prop where
  l1:t.r.ins.length=t.n1
  b1:t.n1≤t.c1∧t.c1≤maxLen
  o1:okIns t.r.ins
  m1:InsIn w w.heap.size t.A1 t.r.ins
  l2:t.r.outs.length=t.n2
  b2:t.n2≤t.c2∧t.c2≤maxLen
  o2:okOuts t.r.outs
  m2:OutsIn w w.heap.size t.A2 t.r.outs
theorem TxOk.up{w w':World}{t:TxM}(h:TxOk w t)(hb:Below w.heap.size w w'):TxOk w' t:=⟨h.l1,h.b1,h.o1,h.m1.up hb,h.l2,h.b2,h.o2,h.m2.up hb⟩
theorem TxOk.ok{w:World}{t:TxM}(h:TxOk w t):okX t.r:=⟨h.o1,h.o2⟩
theorem TxOk.n63{w:World}{t:TxM}(h:TxOk w t):t.n1<9223372036854775808∧t.n2<9223372036854775808:=by
 have h1:=h.b1
 have h2:=h.b2
 unfold maxLen at h1 h2
 omega
theorem txA_size(t:TxM):(txA t).size=2:=rfl
theorem txC_one(t:TxM): ∀u∈txC t,u.oneCell'=true:=by
 intro u hu
 unfold txC at hu
 simp only[List.mem_cons,List.not_mem_nil,or_false]at hu
 rcases hu with rfl|rfl<;>rfl
theorem txA_one(t:TxM):(txA t).all (·.oneCell')=true:=by
 rw[Array.all_eq_true]
 intro i hi
 exact txC_one t _ (show (txA t)[i]∈(txA t).toList from Array.mem_toList_iff.2 (Array.getElem_mem hi))
theorem aggTx:AggT 77 2:=⟨fun w=>by simp[isAgg,run_underlying underlying77],by kernel_rfl⟩
theorem elTx:ElemT 23 77 2 48 (txV noTxM):=⟨underlying23,by kernel_rfl,by decide+kernel,by decide,by decide,by decide⟩
theorem infoTx(cs:Array Value)(h:cs.size=2):(Tryz.prog.info? 77).map (·.size)=some cs.size:=by rw[h];exact aggTx.size
theorem oneIns: ∀w,(isAgg 74).run Tryz.prog w= .ok false w:=fun w=>by simp[isAgg,run_underlying underlying74]
theorem oneOuts: ∀w,(isAgg 75).run Tryz.prog w= .ok false w:=fun w=>by simp[isAgg,run_underlying underlying75]
section
variable {w0 u:World}{M:Boxes}{g:Nat}{ty:TypeId}{t:TxM}
theorem box_tx(hu:EnvC w0 M u)(hm:(g,oc (txA t) ty)∈M):(loadVar 77 ⟨g,0,none⟩).run Tryz.prog u= .ok (txV t) u:=by
 have:=box_agg aggTx (k:=0) hu hm (txC t) rfl rfl
 exact this
instance:Cell Tryz.prog (txA t) 77 0 (txV t) (True):=⟨fun hu hm k=>box_tx hu hm⟩
theorem box_tx_ins(hu:EnvC w0 M u)(hm:(g,oc (txA t) ty)∈M):(loadVar 74 ⟨g,0,none⟩).run Tryz.prog u= .ok (.slice t.A1 t.n1 t.c1) u:=
 run_load_one oneIns u (box_cell hu hm rfl)
instance:Cell Tryz.prog (txA t) 74 0 (.slice t.A1 t.n1 t.c1) (True):=⟨fun hu hm k=>box_tx_ins hu hm⟩
theorem box_tx_outs(hu:EnvC w0 M u)(hm:(g,oc (txA t) ty)∈M):(loadVar 75 ⟨g,1,none⟩).run Tryz.prog u= .ok (.slice t.A2 t.n2 t.c2) u:=
 run_load_one oneOuts u (box_cell hu hm rfl)
instance:Cell Tryz.prog (txA t) 75 1 (.slice t.A2 t.n2 t.c2) (True):=⟨fun hu hm k=>box_tx_outs hu hm⟩
end
section
variable {dst:Option Tmp}{ty:TypeId}{pos:String}{after:Array Edge}{gd:Option (Nat × Bool)}
theorem new_tx(a:Act):NewAt Tryz.prog ⟨dst, .alloc 77,ty,pos,after,gd⟩ a (.cells (txA noTxM) 77 (0,0)):=fun u=>by
 have e:(#[Value.slice none 0 0,Value.slice none 0 0]:Array Value)=txA noTxM:=rfl
 rw[←e]
 go_simp
end
structure TxsIn(w:World)(A:Option Addr)(l:List TxM):Prop where
  cells:CellsIn w w.heap.size A (l.map txC).flatten
  each: ∀t∈l,TxOk w t
theorem TxsIn.up{w w':World}{A:Option Addr}{l:List TxM}(h:TxsIn w A l)(hb:Below w.heap.size w w'):TxsIn w' A l:=⟨h.cells.up hb,fun t ht=>(h.each t ht).up hb⟩
theorem TxsIn.get{w:World}{A:Option Addr}{l:List TxM}(h:TxsIn w A l){i:Nat}(hi:i<l.length):TxOk w (l.getD i noTxM):=by
 rw[gD,gE hi]
 exact h.each _ (List.getElem_mem hi)
theorem rowsTx(l:List TxM):isRows 2 (l.map txC):=fun x hx=>by
 obtain⟨t,ht,rfl⟩:=List.mem_map.1 hx
 rfl
theorem TxsIn.loads{w:World}{A:Option Addr}{l:List TxM}(h:TxsIn w A l){k:Nat}(hk:k<l.length): ∃ad,A=some ad∧ad.block<w.heap.size∧ ∀u,EnvX w u []→
  (loadVar 77 (ad.add (k*2))).run Tryz.prog u= .ok (txV (l.getD k noTxM)) u∧
  (loadVar 74 (ad.add (k*2))).run Tryz.prog u= .ok (.slice (l.getD k noTxM).A1 (l.getD k noTxM).n1 (l.getD k noTxM).c1) u∧
  (loadVar 75 ((ad.add (k*2)).add 1)).run Tryz.prog u= .ok (.slice (l.getD k noTxM).A2 (l.getD k noTxM).n2 (l.getD k noTxM).c2) u:=by
 obtain⟨ad,e,hb,hc⟩:=row_cells (d:=noTxM) h.cells (rowsTx l) (by decide) hk
 refine⟨ad,e,hb,fun u hu=>?_⟩
 have hcu: ∀j v,(txC (l.getD k noTxM))[j]?=some v→u.cell? ((ad.add (k*2)).add j)=some v:=fun j v hv=>by
  rw[←hc j v hv]
  exact(EnvX.bel hu).cell (by rw[block_of_add,block_of_add];exact hb)
 generalize l.getD k noTxM=t at *
 have hadd0: ∀a:Addr,a.add 0=a:=fun a=>by unfold Addr.add;rfl
 refine⟨run_loadAgg aggTx (txC t) rfl hcu,run_load_one oneIns u (by have:=hcu 0 _ rfl;rwa[hadd0]at this),run_load_one oneOuts u (hcu 1 _ rfl)⟩
section
variable {a:Act}{dst:Option Tmp}{x y:Operand}{ty:TypeId}{pos:String}{after:Array Edge}{gd:Option (Nat × Bool)}
end
def FreshY(xs:List Int)(v:Value)(N:Boxes):Prop:=FreshR 5 1 xs.length (xs.map u8v) v N
def GrownB(w0:World)(xs:List Int)(M0:Boxes)(v:Value)(M':Boxes):Prop:= ∃N,M'=N++M0∧FreshY xs v N∧freshN w0 N M0
theorem FreshY.nil:FreshY [] (.slice none 0 0) []:= .inr ⟨rfl,rfl,rfl,rfl⟩
theorem FreshY.own{w:World}{B:Nat}{xs:List Int}{v:Value}{N:Boxes}(h:FreshY xs v N)(hN: ∀y∈N,B≤y.1∧w.heap[y.1]?=some y.2):OwnB w B v xs:=
 FreshR.own h (by rw[lM,Nat.mul_one]) hN
theorem appB_op{w0 u:World}{M:Boxes}(M0:Boxes){N:Boxes}{m c:Nat}{xs ys:List Int}{v:Value}{ad:Addr}{a:Act}{dst:Option Tmp}{y x:Operand}{pos:String}{after:Array Edge}{gd:Option (Nat × Bool)}
  (hu:EnvX w0 u M) (hm:ys.length=m) (hF:FreshY xs v N) (hN: ∀y∈N,y∈M∧w0.heap.size≤y.1) (hc:SrcAt u ad (ys.map u8v)) (hM0: ∀z∈M0,z∈M∧ ∀y∈N,z.1≠y.1) (hs:xs.length+m≤2000000)
  (hyv:a.eval y=v) (hx:a.eval x= .slice (some ad) m c):
  ∃v' u' M',(execOp a.eval ⟨dst, .call {callee:= .builtin .append,args:= #[y,x],argTypes:= #[100,100]},100,pos,after,gd⟩).run Tryz.prog u= .ok (.value v') u'∧EnvX w0 u' M'∧GrownB w0 (xs++ys) M0 v' M':=by
 obtain⟨v',u',M',h1,h2,N',e,h3,h4⟩:=appX_op (dst:=dst) (pos:=pos) (after:=after) (gd:=gd) elB M0 hu (n:=xs.length) (m:=m) (c:=c) (by rw[lM,Nat.mul_one]) (by rw[lM,hm,Nat.mul_one]) u8_one hF hN hc hM0 hs hyv hx
 refine⟨v',u',M',h1,h2,N',e,?_,h4⟩
 unfold FreshY
 rw[lA,hm,List.map_append]
 exact h3
theorem src_fresh{w0 u:World}{M:Boxes}{g n:Nat}{cur:Array Value}{xs:List Int}(hu:EnvC w0 M u)(hm:(g,oc cur 5)∈M)(hl:xs.length=n)(h:cur.toList.take (n*1)=xs.map u8v):SrcAt u ⟨g,0,none⟩ (xs.map u8v):=
 src_box hu hm (by rw[List.drop_zero,lM,hl,←Nat.mul_one n];exact h)
theorem hbuilt0:Tryz.prog.built 26 []=some (arrB 32 z32):=by kernel_rfl
section
variable {a:Act}{dst:Option Tmp}{x y z:Operand}{ty:TypeId}{pos:String}{after:Array Edge}{gd:Option (Nat × Bool)}
theorem FAt_rows2{A0 A1:Option Addr}{n0 n1 c0 c1:Nat}(hx:a.eval x= .slice A0 n0 c0)(hy:a.eval y= .slice A1 n1 c1)(u:World):
  FAt Tryz.prog ⟨dst, .buildSlice 139 2 #[(0,x),(1,y)],ty,pos,after,gd⟩ a (fun v N=> ∃g,v= .slice (some ⟨g,0,none⟩) 2 2∧N=[(g,oc #[.slice A0 n0 c0, .slice A1 n1 c1] 100)]) u:=by
 have h:(execOp a.eval ⟨dst, .buildSlice 139 2 #[(0,x),(1,y)],ty,pos,after,gd⟩).run Tryz.prog u= .ok (.value (.slice (some ⟨u.heap.size,0,none⟩) 2 2)) (u.alloc (.cells #[.slice A0 n0 c0, .slice A1 n1 c1] 100)):=by
  unfold execOp
  simp only[List.map_toArray,List.map_cons,List.map_nil,hx,hy]
  go_simp
 unfold FAt
 rw[h]
 refine⟨(Below.refl _ _).alloc (Nat.le_refl _) _,_,⟨_,rfl,rfl⟩,fun y hy=>?_⟩
 cases mS.1 hy
 exact⟨Nat.le_refl _,heap_alloc_new u _⟩
end
theorem take_snoc{α β:Type}(F:List α)(g:α→β)(d:α){k:Nat}(hk:k<F.length):(F.take (k+1)).map g=(F.take k).map g++[g (F.getD k d)]:=by
 rw[List.take_succ_eq_append_getElem hk,List.map_append,gD,gE hk]
 rfl
theorem getD_mem{α:Type}(F:List α)(d:α){k:Nat}(hk:k<F.length):F.getD k d∈F:=by
 rw[gD,gE hk]
 exact List.getElem_mem hk
def insB(l:List InR)(i:Nat):List Int:=[(l.length:Int)]++((l.take i).map inB).flatten
def outsB(r:TxR)(j:Nat):List Int:=insB r.ins r.ins.length++[(r.outs.length:Int)]++((r.outs.take j).map outB).flatten
theorem insB_step{l:List InR}{i:Nat}(h:i<l.length):insB l (i+1)=insB l i++(l.getD i noIn).tx++[(l.getD i noIn).i]:=by
 unfold insB
 rw[take_snoc l inB noIn h,List.flatten_append,List.flatten_singleton]
 unfold inB
 simp only[aA]
theorem outsB_step{r:TxR}{j:Nat}(h:j<r.outs.length):outsB r (j+1)=outsB r j++putL (r.outs.getD j noOut).v.toNat 6++[(r.outs.getD j noOut).tw]:=by
 unfold outsB
 rw[take_snoc r.outs outB noOut h,List.flatten_append,List.flatten_singleton]
 unfold outB
 simp only[aA]
theorem outsB_all(r:TxR):outsB r r.outs.length=bodyX r:=by
 unfold outsB insB bodyX
 rw[List.take_length,List.take_length]
 simp only[aA,List.cons_append,List.nil_append,List.singleton_append]
theorem insB_le{l:List InR}(h:okIns l)(i:Nat):(insB l i).length≤1+33*l.length:=by
 unfold insB
 rw[lA,flat_len (insB_len (h.take i)),lM,List.length_take]
 show 1+_≤_
 have:33*min i l.length≤33*l.length:=Nat.mul_le_mul_left 33 (Nat.min_le_right ..)
 omega
theorem outsB_le{r:TxR}(h:okX r)(j:Nat):(outsB r j).length≤2+33*r.ins.length+7*r.outs.length:=by
 unfold outsB
 have:=insB_le h.1 r.ins.length
 rw[lA,lA,flat_len (outsB_len _),lM,List.length_take]
 have:7*min j r.outs.length≤7*r.outs.length:=Nat.mul_le_mul_left 7 (Nat.min_le_right ..)
 show _+1+_≤_
 omega
def BInv(w:World)(M0:Boxes)(xs:List Int)(v:Value)(u:World):Prop:= ∃N,FreshY xs v N∧freshN w N M0∧EnvX w u (N++M0)
def lvN(lev:Int):Nat:=(min lev 31).toNat
theorem lvN_le(lev:Int):lvN lev≤31:=by unfold lvN;omega
def stepL(x:List Int)(r:List (List Int))(id:List Int)(k:Nat):List (List Int):=x::(List.replicate k id++r.drop k)
def nextT (l:List (List Int)) (id:List Int) (lev:Int):List (List Int):=
  if 32<l.length then []else match l with
    |[]=>[id]
    |x::r=>stepL x r id (lvN lev)
theorem step_len(x:List Int)(r:List (List Int))(id:List Int)(k:Nat):(stepL x r id k).length=1+(k+(r.length- k)):=by
 unfold stepL
 rw[List.length_cons,lA,List.length_replicate,List.length_drop]
 omega
theorem step_zero(x:List Int)(r:List (List Int))(id:List Int):stepL x r id 0=x::r:=rfl
theorem step_set{x:List Int}{r:List (List Int)}{id:List Int}{k:Nat}(h:k<r.length):(stepL x r id k).set (k+1) id=stepL x r id (k+1):=by
 unfold stepL
 rw[List.set_cons_succ]
 congr 1
 apply List.ext_getElem (by simp;omega)
 intro j h1 h2
 rw[List.getElem_set]
 by_cases e:k=j
 · subst e
   rw[if_pos rfl,List.getElem_append_left (by simp),List.getElem_replicate]
 · rw[if_neg e]
   by_cases e2:j<k
   · rw[List.getElem_append_left (by simpa using e2),List.getElem_append_left (by simp;omega),List.getElem_replicate,List.getElem_replicate]
   · rw[List.getElem_append_right (by simp;omega),List.getElem_append_right (by simp;omega),List.getElem_drop,List.getElem_drop]
     congr 1
     simp only[List.length_replicate]
     omega
theorem step_app{x:List Int}{r:List (List Int)}{id:List Int}{k:Nat}(h:r.length≤k):stepL x r id k++[id]=stepL x r id (k+1):=by
 unfold stepL
 rw[List.drop_of_length_le h,List.drop_of_length_le (by omega),List.append_nil,List.append_nil,List.cons_append,List.replicate_succ']
theorem step_ids{x:List Int}{r:List (List Int)}{id:List Int}{k:Nat}(hx:isIds (x::r))(hid:isId id):isIds (stepL x r id k):=by
 intro y hy
 unfold stepL at hy
 rcases List.mem_cons.1 hy with rfl|h
 · exact hx y (List.mem_cons_self ..)
 · rcases List.mem_append.1 h with h|h
   · rw[List.eq_of_mem_replicate h];exact hid
   · exact hx y (mT (List.mem_of_mem_drop h))
theorem next_ids{l:List (List Int)}{id:List Int}{lev:Int}(hl:isIds l)(hid:isId id):isIds (nextT l id lev):=by
 unfold nextT
 split
 · intro y hy;cases hy
 · cases l with
   |nil=>intro y hy;cases mS.1 hy;exact hid
   |cons x r=>exact step_ids hl hid
theorem next_many{l:List (List Int)}{id:List Int}{lev:Int}(h:32<l.length):nextT l id lev=[]:=by unfold nextT;rw[if_pos h]
theorem next_none(id:List Int)(lev:Int):nextT [] id lev=[id]:=rfl
theorem next_some{x:List Int}{r:List (List Int)}{id:List Int}{lev:Int}(h:r.length+1≤32):nextT (x::r) id lev=stepL x r id (lvN lev):=by unfold nextT;rw[if_neg (by rw[List.length_cons];omega)]
theorem next_len{l:List (List Int)}{id:List Int}{lev:Int}:(nextT l id lev).length≤32:=by
 unfold nextT
 split
 · exact Nat.zero_le _
 · rename_i h
   cases l with
   |nil=>exact(by decide:1≤32)
   |cons x r=>
    have:=lvN_le lev
    rw[step_len]
    rw[List.length_cons]at h
    omega
def leavesL(l:List (List Int)):List (List Int):=l.map leafT
theorem leavesL_len(l:List (List Int)):(leavesL l).length=l.length:=List.length_map _
theorem leavesL_ids(l:List (List Int)):isIds (leavesL l):=fun x hx=>by
 obtain⟨y,_,rfl⟩:=List.mem_map.1 hx
 exact⟨sumL_len _,sumL_byte _⟩
theorem IdsIn.at{w:World}{B:Nat}{A:Option Addr}{l:List (List Int)}(h:IdsIn w B A l)(hl:isIds l){i:Nat}(hi:i<l.length): ∃ad,A=some ad∧Bytes w B (some (ad.add (i*32))) (l.getD i []):=by
 have hfl:=hl.flat_len
 obtain⟨ad,e,hb,hc⟩:=h (by omega)
 refine⟨ad,e,fun _=>⟨_,rfl,by rw[block_of_add];exact hb,fun j v hv=>?_⟩⟩
 rw[add_add32]
 have hj:j<32:=by
  rcases Nat.lt_or_ge j 32 with h'|h'
  · exact h'
  · rw[gN (by rw[lM,(hl.get hi).1];exact h')]at hv
    cases hv
 refine hc (i*32+j) v ?_
 rw[List.getElem?_map,hl.flat_get i j hi hj]
 rwa[List.getElem?_map]at hv
theorem FreshI.form{l:List (List Int)}{x:Value}{N:Boxes}(h:FreshI l x N): ∃A c,x= .slice A l.length c∧l.length≤c∧c≤maxLen:=by
 rcases h with ⟨g,cap,cur,rfl,_,h1,h2,_⟩|⟨rfl,_,rfl⟩
 · exact⟨_,cap,rfl,h1,h2⟩
 · exact⟨none,0,rfl,Nat.le_refl _,Nat.zero_le _⟩
theorem FreshI.ids{w0 u:World}{M N:Boxes}{l:List (List Int)}{A:Option Addr}{n c:Nat}(h:FreshI l (.slice A n c) N)(hl:isIds l)(hu:EnvX w0 u M)(hN: ∀y∈N,y∈M):IdsIn u u.heap.size A l:=
 OwnI.ids (h.own (B:=0) hl (fun y hy=>⟨Nat.zero_le _,EnvX.box hu _ _ (hN y hy)⟩))
theorem lleaves_step{l:List (List Int)}{k:Nat}(h:k<l.length):leavesL (l.take (k+1))=leavesL (l.take k)++[leafT (l.getD k [])]:=by
 unfold leavesL
 exact take_snoc l leafT [] h
theorem bytes_srcI{u:World}{B g k:Nat}{xs:List Int}(hg:g<B)(h:SrcAt u ⟨g,k,none⟩ (xs.map u8v)):Bytes u B (some ⟨g,k,none⟩) xs:=fun _=>⟨_,rfl,hg,h⟩
theorem id_src{x:List Int}(h:x.length=32):((arrB 32 x).toList.drop 0).take (x.map u8v).length=x.map u8v:=by
 rw[arrId_map h,List.drop_zero,List.take_length]
def rsT(l:List TxM):List TxR:=l.map (·.r)
theorem idsX_step{l:List TxM}{k:Nat}(h:k<l.length):idsX (rsT (l.take (k+1)))=idsX (rsT (l.take k))++[idX (l.getD k noTxM).r]:=by
 unfold idsX rsT
 rw[List.map_map,List.map_map]
 exact take_snoc l (idX∘ (·.r)) noTxM h
theorem idsX_len(l:List TxM):(idsX (rsT l)).length=l.length:=by unfold idsX rsT;rw[lM,lM]
theorem inA_size'{x:InR}(h:x.tx.length≤32):(inA x).size=33:=by
 unfold inA inC
 rw[List.size_toArray,lA,Array.length_toList,arrB_size _ _ h]
 rfl
theorem FreshR.formR{e:TypeId}{z n:Nat}{xs:List Value}{x:Value}{N:Boxes}(h:FreshR e z n xs x N): ∃A c,x= .slice A n c∧n≤c∧c≤maxLen:=by
 rcases h with ⟨g,cap,cur,rfl,_,h1,h2,_⟩|⟨rfl,_,rfl,_⟩
 · exact⟨_,cap,rfl,h1,h2⟩
 · exact⟨none,0,rfl,Nat.le_refl _,Nat.zero_le _⟩
section
variable {a:Act}{dst:Option Tmp}{x y:Operand}{ty:TypeId}{pos:String}{after:Array Edge}{gd:Option (Nat × Bool)}
end
open Go.ChangeShapes Go.WideShapes Go.ChangeAt Go.RowKit Go.Deep
theorem ccellsInt:Tryz.prog.cellsOf 3=1:=by kernel_rfl
theorem ccellsIn:Tryz.prog.cellsOf 133=33:=by kernel_rfl
theorem ccellsOut:Tryz.prog.cellsOf 135=2:=by kernel_rfl
theorem ccellsTx:Tryz.prog.cellsOf 77=2:=by kernel_rfl
theorem ccellsIns:Tryz.prog.cellsOf 74=1:=by kernel_rfl
theorem ccellsOuts:Tryz.prog.cellsOf 75=1:=by kernel_rfl
section
variable {H:Type}{enc:TypeId × Value→H}{W:World}{base:Nat}{spare:Nat→Bool}{held:Bool}{fuel:Nat}{cs:List Value}{x:DataW H × List MemPlace}
theorem in_cells(h:DataW.trod enc Tryz.prog W base spare held fuel 133 cs=some x): ∃t:InR,okIn t∧cs=inC t:=by
 obtain⟨y0,y1,n,_,hl,h0,h1⟩:=trod_struct2 underlying133 h
 rw[ccellsIn]at hl
 obtain⟨hs,k1,k2,e0⟩:=id_cells h0
 obtain⟨i,e1,_,wf⟩:=DataW.trod_int underlying3 h1
 have e0':cs.take 32=hs.map u8v:=by
  have h:=e0
  rw[show Tryz.prog.cellsOf 26=32 from cellsOfId]at h
  exact h
 have e1':(cs.drop 32).take 1=[.int .i64 i]:=by
  have h:=e1
  rw[show Tryz.prog.cellsOf 3=1 from ccellsInt]at h
  exact h
 refine⟨⟨hs,i⟩,⟨⟨k1,k2⟩,bounds_i64 wf⟩,?_⟩
 unfold inC
 show cs=(arrB 32 hs).toList++[.int .i64 i]
 rw[arrId_map k1,←e0',←e1',List.take_of_length_le (l:=cs.drop 32) (by rw[List.length_drop];omega),List.take_append_drop]
theorem out_cells(h:DataW.trod enc Tryz.prog W base spare held fuel 135 cs=some x): ∃t:OutR,okOut t∧cs=outC t:=by
 obtain⟨y0,y1,n,_,hl,h0,h1⟩:=trod_struct2 underlying135 h
 rw[ccellsOut]at hl
 obtain⟨v,e0,_,wv⟩:=DataW.trod_int underlying3 h0
 obtain⟨i,e1,_,wf⟩:=DataW.trod_int underlying3 h1
 have e0':cs.take 1=[.int .i64 v]:=by
  have h:=e0
  rw[show Tryz.prog.cellsOf 3=1 from ccellsInt]at h
  exact h
 have e1':(cs.drop 1).take 1=[.int .i64 i]:=by
  have h:=e1
  rw[show Tryz.prog.cellsOf 3=1 from ccellsInt]at h
  exact h
 refine⟨⟨v,i⟩,⟨bounds_i64 wv,bounds_i64 wf⟩,?_⟩
 show cs=[.int .i64 v]++[.int .i64 i]
 rw[←e0',←e1',List.take_of_length_le (l:=cs.drop 1) (by rw[List.length_drop];omega),List.take_append_drop]
end
section
variable {H:Type}{enc:TypeId × Value→H}{W:World}{base:Nat}{v:Value}{d:DataW H}{p:List MemPlace}{fuel:Nat}{cs:List Value}{x:DataW H × List MemPlace}
end
def lessL:List Int→List Int→Bool
  |x::xs,y::ys=>if x=y then lessL xs ys else decide (x<y)
  |_,_=>false
theorem drop_at(l:List Int)(k:Nat)(h:k<l.length):l.drop k=l.getD k 0::l.drop (k+1):=by
 rw[List.drop_eq_getElem_cons h]
 simp[List.getD,gE h]
theorem lessL_at(xs ys:List Int)(k:Nat)(hx:k<xs.length)(hy:k<ys.length):
  (xs.getD k 0=ys.getD k 0→lessL (xs.drop k) (ys.drop k)=lessL (xs.drop (k+1)) (ys.drop (k+1)))∧
  (xs.getD k 0≠ys.getD k 0→lessL (xs.drop k) (ys.drop k)=decide (xs.getD k 0<ys.getD k 0)):=by
 rw[drop_at xs k hx,drop_at ys k hy]
 exact⟨fun h=>by simp only[lessL];rw[if_pos h],fun h=>by simp only[lessL];rw[if_neg h]⟩
theorem less_any(xs ys:List Int)(w:World)(hx:xs.length=32)(hy:ys.length=32):
  Rz 233 #[.agg (arrB 32 xs), .agg (arrB 32 ys)] w (.bool (lessL xs ys)):=by
 unfold Rz
 have HX:=hD hx
 have HY:=hD hy
 clear hx hy
 go_enter func233,ntmps233
 go_wp2_with fail
 go_loopw [6] (fun i u=> ∃k:Nat,k≤32∧i= .int .i64 k∧Below w.heap.size w u∧Hid (Row u w.heap.size 26 (arrB 32 xs)∧Row u (w.heap.size+1) 26 (arrB 32 ys)∧lessL xs ys=lessL (xs.drop k) (ys.drop k))) (fun i _=>32- (intOf i).toNat)
 case atStart=>exact⟨0,by omega,rfl,by go_grown,(Row.new w 26 _).alloc _,Row.newAt (by simp) 26 _,rfl⟩
 case round=>
  obtain⟨k,hk,rfl,hbl,hrows⟩:=hrel
  obtain⟨r0,r1,hq⟩:=hrows.out
  by_cases hlt:k<32
  · have e0:wr.cell? ⟨w.heap.size,k,none⟩=some (.int .u8 (xs.getD k 0)):=(r0.cell k).trans (arrB_get 32 _ k (by rw[HX.out];omega) hlt)
    have e1:wr.cell? ⟨w.heap.size+1,k,none⟩=some (.int .u8 (ys.getD k 0)):=(r1.cell k).trans (arrB_get 32 _ k (by rw[HY.out];omega) hlt)
    have hs:=hD (lessL_at xs ys k (by rw[HX.out];exact hlt) (by rw[HY.out];exact hlt))
    have R0:=hD r0
    have R1:=hD r1
    have HQ:=hD hq
    clear r0 r1 hq hrows
    generalize xs.getD k 0=x at *
    generalize ys.getD k 0=y at *
    have hl2:(k:Int)<32:=by omega
    by_cases hxy:x=y
    · subst hxy
      have hne:(x !=x)=false:=by simp
      have hs1:=hD (HQ.out.trans (hs.out.1 rfl))
      clear hs HQ
      go_wp2_with fail
      go_quiet (fail)
      go_wp2
      go_roundw
      case rel=>exact⟨k+1,by omega,by go_num,below_drewN hbl _,R0.out.drewN _,R1.out.drewN _,hs1.out⟩
      case measure=>simp[intOf];omega
    · have hne:(x !=y)=true:=by simpa using hxy
      have hfin:=hD (HQ.out.trans (hs.out.2 hxy))
      clear hxy
      go_wp2_with fail
      go_quiet (fail)
      go_wp2_with fail
      go_quiet (fail)
      go_wp2
      go_ret
      exact⟨by rw[hfin.out];rfl,below_drewN (below_drewN hbl _) _⟩
  · obtain rfl:k=32:=by omega
    have hfin:Hid (lessL xs ys=false):=by
      show _=_
      rw[hq,List.drop_eq_nil_of_le (by rw[HX.out];exact Nat.le_refl _)]
      rfl
    clear r0 r1 hq hrows
    go_wp2
    go_ret
    exact⟨by rw[hfin.out];rfl,hbl⟩
theorem less_three: ∀(n:Nat)(xs ys:List Int),xs.length=n→ys.length=n→(lessL xs ys=true∧lessL ys xs=false∧eqL xs ys=false)∨(lessL xs ys=false∧lessL ys xs=true∧eqL xs ys=false)∨(lessL xs ys=false∧lessL ys xs=false∧eqL xs ys=true)
 |0,[],[],_,_=>by simp[lessL,eqL]
 |n+1,x::xs,y::ys,h1,h2=>by
  have ih:=less_three n xs ys (by simpa using h1) (by simpa using h2)
  simp only[lessL,eqL,List.cons.injEq]at ih ⊢
  rcases Int.lt_trichotomy x y with h|h|h
  · left;simp[show¬x=y by omega,show¬y=x by omega,h];omega
  · subst h;simpa using ih
  · right;left;simp[show¬x=y by omega,show¬y=x by omega,h];omega
theorem less_trans: ∀(n:Nat)(xs ys zs:List Int),xs.length=n→ys.length=n→zs.length=n→lessL xs ys=true→lessL ys zs=true→lessL xs zs=true
 |0,[],[],[],_,_,_=>by simp[lessL]
 |n+1,x::xs,y::ys,z::zs,h1,h2,h3=>by
  have ih:=less_trans n xs ys zs (by simpa using h1) (by simpa using h2) (by simpa using h3)
  simp only[lessL]
  intro a b
  by_cases e1:x=y
  · subst e1
    by_cases e2:x=z
    · subst e2;simp at a b ⊢;exact ih a b
    · simp[e2]at b ⊢;exact b
  · by_cases e2:y=z
    · subst e2;simp[e1]at a ⊢;exact a
    · simp[e1]at a
      simp[e2]at b
      simp[show¬x=z by omega];omega
structure CoinR where
  tx:List Int
  i:Int
  v:Int
  tw:Int
deriving DecidableEq
def noCoin:CoinR:=⟨z32,0,0,0⟩
def keyC(c:CoinR):InR:=⟨c.tx,c.i⟩
def outK(c:CoinR):OutR:=⟨c.v,c.tw⟩
def okCoin(c:CoinR):Prop:=isId c.tx∧I64 c.i∧I64 c.v∧I64 c.tw
def okP(p:List CoinR):Prop:= ∀c∈p,okCoin c
def idP(p:List CoinR):Prop:= ∀c∈p,isId c.tx
theorem okP.id{p:List CoinR}(h:okP p):idP p:=fun c hc=>(h c hc).1
def beforeK(a b:InR):Bool:=lessL a.tx b.tx||(decide (a.tx=b.tx) && decide (a.i<b.i))
def boundC(c:CoinR):Bool:=decide (0≤c.i∧c.i≤2∧1≤c.v∧c.v≤1099511627776∧0≤c.tw∧c.tw≤255)
def upP(p:List CoinR):Prop:=p.Pairwise fun a b=>beforeK (keyC a) (keyC b)=true
instance (p:List CoinR):Decidable (upP p):=inferInstanceAs (Decidable (p.Pairwise _))
def mayP(p:List CoinR):Bool:=decide (p.length≤48∧(∀c∈p,boundC c=true)∧upP p)
def findP(p:List CoinR)(x:InR):Int:=match p.findIdx? (fun c=>decide (keyC c=x))with
  |some k=>k
  |none=> -1
def sumV(p:List CoinR):Int:=(p.map (·.v)).sum
def withP:List CoinR→CoinR→List CoinR
  |[],c=>[c]
  |d::r,c=>if beforeK (keyC c) (keyC d)then c::d::r else d::withP r c
def thereP(p:List CoinR)(id:List Int):Bool:=p.any fun c=>decide (c.tx=id)
def newC(id:List Int):Int→List OutR→List CoinR
  |_,[]=>[]
  |i,o::os=>⟨id,i,o.v,o.tw⟩::newC id (i+1) os
def madeP(p:List CoinR)(cs:List CoinR):List CoinR:=cs.foldl withP p
def worthX(t:TxR):Int:=(t.outs.map (·.v)).sum
def takeP:List CoinR→List InR→Option (List CoinR × Int)
  |l,[]=>some (l,0)
  | l,x::xs=>match l.find? (fun c=>decide (keyC c=x))with
    |none=>none
    | some c=>match takeP (l.eraseP fun c=>decide (keyC c=x)) xs with
      |none=>none
      |some r=>some (r.1,c.v+r.2)
def spendP (p:List CoinR) (t:TxR):List CoinR × Int × Nat:=
  if mayP p&& mayX t&& decide (t.ins≠[])then
    match takeP p t.ins with
    |none=>(p,0,8)
    |some (l,n)=>if n<worthX t then (p,0,8)else if thereP l (idX t)then (p,0,10)else if 48<(madeP l (newC (idX t) 0 t.outs)).length then (p,0,11)else (madeP l (newC (idX t) 0 t.outs),n- worthX t,0)
  else (p,0,1)
def runP:List CoinR→Int→List TxR→Except Nat (List CoinR × Int)
  |p,n,[]=> .ok (p,n)
  | p,n,t::l=>match spendP p t with
    |(q,m,0)=>runP q (n+m) l
    |(_,_,e+1)=> .error (e+1)
def loneX(l:List TxR):Bool:=match l with
  |[]=>false
  |t::_=>decide (t.ins=[])
def applyP (p:List CoinR) (l:List TxR):List CoinR × Nat:=
  if mayP p=false then (p,1)else if 4<l.length then (p,3)else
  match runP p 0 (if loneX l then l.tail else l)with
  | .error e=>(p,e)
  | .ok (q,n)=>match l with
    |[]=>(q,0)
    |t::_=>if t.ins≠[]then (q,0)else if mayX t=false then (p,1)else if thereP q (idX t)then (p,10)else if 50+n<worthX t then (p,8)else if 48<(madeP q (newC (idX t) 0 t.outs)).length then (p,11)else (madeP q (newC (idX t) 0 t.outs),0)
theorem less_irr{x:List Int}(h:x.length=32):lessL x x=false:=by
 rcases less_three 32 x x h h with ⟨a,b,_⟩|⟨a,b,_⟩|⟨a,_,_⟩
 · rw[a]at b;cases b
 · exact a
 · exact a
theorem bef_irr{a:InR}(h:isId a.tx):beforeK a a=false:=by
 unfold beforeK
 rw[less_irr h.1]
 simp
theorem bef_trans{a b c:InR}(ha:isId a.tx)(hb:isId b.tx)(hc:isId c.tx)(h1:beforeK a b=true)(h2:beforeK b c=true):beforeK a c=true:=by
 unfold beforeK at *
 simp only[Bool.or_eq_true,Bool.and_eq_true,decide_eq_true_eq]at *
 rcases h1 with h1|⟨e1,i1⟩
 · rcases h2 with h2|⟨e2,i2⟩
   · exact .inl (less_trans 32 _ _ _ ha.1 hb.1 hc.1 h1 h2)
   · exact .inl (by rw[←e2];exact h1)
 · rcases h2 with h2|⟨e2,i2⟩
   · exact .inl (by rw[e1];exact h2)
   · exact .inr ⟨e1.trans e2,by omega⟩
theorem bef_tri{a b:InR}(ha:isId a.tx)(hb:isId b.tx)(hn:beforeK a b=false)(hne:a≠b):beforeK b a=true:=by
 unfold beforeK at *
 simp only[Bool.or_eq_true,Bool.or_eq_false_iff,Bool.and_eq_true,Bool.and_eq_false_iff,decide_eq_true_eq,decide_eq_false_iff_not]at *
 obtain⟨n1,n2⟩:=hn
 rcases less_three 32 a.tx b.tx ha.1 hb.1 with ⟨x,_,_⟩|⟨_,y,_⟩|⟨_,_,z⟩
 · rw[x]at n1;cases n1
 · exact .inl y
 · have e:a.tx=b.tx:=of_decide_eq_true z
   have hi:a.i≠b.i:=fun hi=>hne (by cases a;cases b;simp only at e hi;rw[e,hi])
   rcases n2 with n2|n2
   · exact absurd e n2
   · exact .inr ⟨e.symm,by omega⟩
theorem bef_ne{a b:InR}(ha:isId a.tx)(h:beforeK a b=true):a≠b:=fun e=>by
 subst e
 rw[bef_irr ha]at h
 cases h
theorem withP_perm(p:List CoinR)(c:CoinR):(withP p c).Perm (c::p):=by
 induction p with
 |nil=>exact List.Perm.refl _
 |cons d r ih=>
  unfold withP
  split
  · exact List.Perm.refl _
  · exact(List.Perm.cons d ih).trans (List.Perm.swap c d r)
theorem withP_up{p:List CoinR}{c:CoinR}(hp:idP p)(hc:isId c.tx)(hu:upP p)(hn: ∀d∈p,keyC d≠keyC c):upP (withP p c):=by
 induction p with
 |nil=>exact List.pairwise_singleton _ _
 |cons d r ih=>
  have hd:=hp d (List.mem_cons_self ..)
  have hr:idP r:=fun x hx=>hp x (mT hx)
  obtain⟨h1,h2⟩:=List.pairwise_cons.1 hu
  unfold withP
  split
  · rename_i hb
    refine List.pairwise_cons.2 ⟨fun x hx=>?_,hu⟩
    rcases List.mem_cons.1 hx with rfl|hx
    · exact hb
    · exact bef_trans hc hd (hr x hx) hb (h1 x hx)
  · rename_i hb
    refine List.pairwise_cons.2 ⟨fun x hx=>?_,ih hr h2 (fun y hy=>hn y (mT hy))⟩
    rcases List.mem_cons.1 ((withP_perm r c).mem_iff.1 hx)with rfl|hx
    · exact bef_tri hc hd (by simpa using hb) (fun e=>hn d (List.mem_cons_self ..) e.symm)
    · exact h1 x hx
theorem madeP_perm: ∀(cs p:List CoinR),(madeP p cs).Perm (cs++p)
 |[],p=>List.Perm.refl _
 |c::cs,p=>by
  show (madeP (withP p c) cs).Perm _
  refine(madeP_perm cs (withP p c)).trans ?_
  refine(List.Perm.append_left cs (withP_perm p c)).trans ?_
  exact List.perm_middle
theorem madeP_up: ∀(cs p:List CoinR),idP p→(∀c∈cs,isId c.tx)→upP p→(∀d∈p,∀c∈cs,keyC d≠keyC c)→cs.Pairwise (fun a b=>keyC a≠keyC b)→upP (madeP p cs)
 |[],p,_,_,hu,_,_=>hu
 |c::cs,p,hp,hc,hu,hn,hd=>by
  obtain⟨d1,d2⟩:=List.pairwise_cons.1 hd
  refine madeP_up cs (withP p c) (fun x hx=>?_) (fun x hx=>hc x (mT hx)) (withP_up hp (hc c (List.mem_cons_self ..)) hu (fun d hd=>hn d hd c (List.mem_cons_self ..))) (fun x hx y hy=>?_) d2
  · rcases List.mem_cons.1 ((withP_perm p c).mem_iff.1 hx)with rfl|hx
    · exact hc _ (List.mem_cons_self ..)
    · exact hp x hx
  · rcases List.mem_cons.1 ((withP_perm p c).mem_iff.1 hx)with rfl|hx
    · exact d1 y hy
    · exact hn x hx y (mT hy)
theorem sumV_perm{p q:List CoinR}(h:p.Perm q):sumV p=sumV q:=by
 unfold sumV
 induction h with
 |nil=>rfl
 |cons x _ ih=>simp only[List.map_cons,List.sum_cons,ih]
 |swap x y l=>simp only[List.map_cons,List.sum_cons];omega
 |trans _ _ h1 h2=>exact h1.trans h2
theorem sumV_app(p q:List CoinR):sumV (p++q)=sumV p+sumV q:=by
 unfold sumV
 rw[List.map_append,List.sum_append]
theorem sumV_cons(c:CoinR)(p:List CoinR):sumV (c::p)=c.v+sumV p:=by unfold sumV;rw[List.map_cons,List.sum_cons]
theorem newC_mem{id:List Int}: ∀{os:List OutR}{i:Int}{c:CoinR},c∈newC id i os→c.tx=id∧i≤c.i∧c.i<i+os.length∧outK c∈os
 |[],i,c,h=>by cases h
 |o::os,i,c,h=>by
  rcases List.mem_cons.1 h with rfl|h
  · exact⟨rfl,Int.le_refl _,by simp only[List.length_cons];omega,List.mem_cons_self ..⟩
  · obtain⟨h1,h2,h3,h4⟩:=newC_mem h
    exact⟨h1,by omega,by simp only[List.length_cons];omega,mT h4⟩
theorem newC_len(id:List Int): ∀(os:List OutR)(i:Int),(newC id i os).length=os.length
 |[],_=>rfl
 |o::os,i=>by unfold newC;rw[List.length_cons,newC_len id os,List.length_cons]
theorem newC_ne(id:List Int): ∀(os:List OutR)(i:Int),(newC id i os).Pairwise (fun a b=>keyC a≠keyC b)
 |[],_=>List.Pairwise.nil
 |o::os,i=>by
  refine List.pairwise_cons.2 ⟨fun x hx e=>?_,newC_ne id os (i+1)⟩
  have h1:=(newC_mem hx).2.1
  have h2:x.i=i:=(congrArg InR.i e).symm
  omega
theorem newC_sum(id:List Int): ∀(os:List OutR)(i:Int),sumV (newC id i os)=(os.map (·.v)).sum
 |[],_=>rfl
 |o::os,i=>by unfold newC;rw[sumV_cons,newC_sum id os,List.map_cons,List.sum_cons]
theorem find_mem{l:List CoinR}{x:InR}{c:CoinR}(h:l.find? (fun c=>decide (keyC c=x))=some c):c∈l∧keyC c=x:=⟨List.mem_of_find?_eq_some h,by have:=List.find?_some h;simpa using this⟩
theorem erase_perm{l:List CoinR}{x:InR}{c:CoinR}(h:l.find? (fun c=>decide (keyC c=x))=some c):l.Perm (c::l.eraseP fun c=>decide (keyC c=x)):=by
 induction l with
 |nil=>cases h
 |cons d r ih=>
  by_cases e:keyC d=x
  · rw[List.find?_cons_of_pos (by simpa using e)]at h
    cases h
    rw[List.eraseP_cons_of_pos (by simpa using e)]
  · rw[List.find?_cons_of_neg (by simpa using e)]at h
    rw[List.eraseP_cons_of_neg (by simpa using e)]
    exact(List.Perm.cons d (ih h)).trans (List.Perm.swap c d _)
theorem take_some: ∀(xs:List InR)(l:List CoinR)(r:List CoinR × Int),takeP l xs=some r→r.1.Sublist l∧sumV r.1+r.2=sumV l∧r.1.length+xs.length=l.length∧(∀d∈l,keyC d∉ xs→d∈r.1)∧((∀d∈l,0≤d.v)→0≤r.2)
 |[],l,r,h=>by
  cases h
  exact⟨List.Sublist.refl _,by simp,by simp,fun d hd _=>hd,fun _=>Int.le_refl _⟩
 | x::xs,l,r,h=>by
  unfold takeP at h
  cases hf:l.find? (fun c=>decide (keyC c=x))with
  |none=>rw[hf]at h;cases h
  | some c=>
   rw[hf]at h
   simp only at h
   cases ht:takeP (l.eraseP fun c=>decide (keyC c=x)) xs with
   |none=>rw[ht]at h;cases h
   |some q=>
    rw[ht]at h
    cases h
    obtain⟨h1,h2,h3,h4,h5⟩:=take_some xs _ _ ht
    have hp:=erase_perm hf
    have hs:=sumV_perm hp
    rw[sumV_cons]at hs
    have hl:=hp.length_eq
    rw[List.length_cons]at hl
    refine⟨h1.trans List.eraseP_sublist,by simp only;omega,by rw[List.length_cons];simp only;omega,fun d hd hn=>?_,fun hv=>?_⟩
    · rcases List.mem_cons.1 (hp.mem_iff.1 hd)with rfl|hd
      · exact absurd (by rw[(find_mem hf).2];exact List.mem_cons_self ..) hn
      · exact h4 d hd (fun h=>hn (mT h))
    · have a:=hv c (find_mem hf).1
      have b:=h5 (fun d hd=>hv d (List.eraseP_sublist.subset hd))
      simp only
      omega
def coC(c:CoinR):List Value:=inC (keyC c)++outC (outK c)
def coA(c:CoinR):Array Value:=(coC c).toArray
def coV(c:CoinR):Value:= .agg (coA c)
def noC0:CoinR:=⟨[],0,0,0⟩
def lenC(c:CoinR):Prop:=c.tx.length=32
theorem okCoin.len{c:CoinR}(h:okCoin c):lenC c:=h.1.1
theorem coC_len{c:CoinR}(h:lenC c):(coC c).length=35:=by
 unfold coC
 rw[lA,inC_len (show lenI (keyC c)from h)]
 rfl
theorem coC_one(c:CoinR): ∀u∈coC c,u.oneCell'=true:=by
 intro u hu
 unfold coC at hu
 rcases List.mem_append.1 hu with h|h
 · exact inC_one _ u h
 · exact outC_one _ u h
theorem aggCo:AggT 137 35:=⟨fun w=>by simp[isAgg,run_underlying underlying137],by kernel_rfl⟩
theorem elCo:ElemT 39 137 35 56 (coV noC0):=⟨underlying39,by kernel_rfl,by decide+kernel,by decide,by decide,by decide⟩
theorem coC_in{c:CoinR}(h:lenC c):(coC c).take 33=inC (keyC c):=by unfold coC;rw[List.take_left' (inC_len (show lenI (keyC c)from h))]
theorem coC_tx{c:CoinR}(h:lenC c):(coC c).take 32=(arrB 32 c.tx).toList:=by
 have e:=coC_in h
 have e2:(coC c).take 32=((coC c).take 33).take 32:=by rw[List.take_take];rfl
 rw[e2,e]
 unfold inC
 exact List.take_left' (idA_list (show (keyC c).tx.length=32 from h))
theorem coC_i{c:CoinR}(h:lenC c):(coC c)[32]?=some (.int .i64 c.i):=by
 unfold coC
 rw[List.getElem?_append_left (by rw[inC_len (show lenI (keyC c)from h)];omega)]
 exact inC_i (show lenI (keyC c)from h)
theorem coC_v{c:CoinR}(h:lenC c):(coC c)[33]?=some (.int .i64 c.v):=by
 unfold coC
 rw[List.getElem?_append_right (by rw[inC_len (show lenI (keyC c)from h)];omega),inC_len (show lenI (keyC c)from h)]
 rfl
theorem coC_to{c:CoinR}(h:lenC c):(coC c)[34]?=some (.int .i64 c.tw):=by
 unfold coC
 rw[List.getElem?_append_right (by rw[inC_len (show lenI (keyC c)from h)];omega),inC_len (show lenI (keyC c)from h)]
 rfl
theorem coC_out{c:CoinR}(h:lenC c):((coC c).drop 33).take 2=outC (outK c):=by
 unfold coC
 rw[List.drop_left' (inC_len (show lenI (keyC c)from h))]
 rfl
section
variable {w0 u:World}{M:Boxes}{g:Nat}{ty:TypeId}{c:CoinR}
theorem box_co_i(hu:EnvC w0 M u)(hm:(g,oc (coA c) ty)∈M)(h:lenC c):(loadVar 3 ⟨g,32,none⟩).run Tryz.prog u= .ok (.int .i64 c.i) u:=
 run_load_one oneInt u (box_cell hu hm (by unfold coA;rw[List.getElem?_toArray];exact coC_i h))
instance:Cell Tryz.prog (coA c) 3 32 (.int .i64 c.i) (lenC c):=⟨fun hu hm k=>box_co_i hu hm k⟩
theorem box_co_v(hu:EnvC w0 M u)(hm:(g,oc (coA c) ty)∈M)(h:lenC c):(loadVar 3 ⟨g,33,none⟩).run Tryz.prog u= .ok (.int .i64 c.v) u:=
 run_load_one oneInt u (box_cell hu hm (by unfold coA;rw[List.getElem?_toArray];exact coC_v h))
instance:Cell Tryz.prog (coA c) 3 33 (.int .i64 c.v) (lenC c):=⟨fun hu hm k=>box_co_v hu hm k⟩
theorem box_co_to(hu:EnvC w0 M u)(hm:(g,oc (coA c) ty)∈M)(h:lenC c):(loadVar 3 ⟨g,34,none⟩).run Tryz.prog u= .ok (.int .i64 c.tw) u:=
 run_load_one oneInt u (box_cell hu hm (by unfold coA;rw[List.getElem?_toArray];exact coC_to h))
instance:Cell Tryz.prog (coA c) 3 34 (.int .i64 c.tw) (lenC c):=⟨fun hu hm k=>box_co_to hu hm k⟩
end
theorem built_co{x:InR}{o:OutR}(h:lenI x):Tryz.prog.built 137 [(0,inV x),(1,outV o)]=some (coA ⟨x.tx,x.i,o.v,o.tw⟩):=by
 have hs:(inA x).size=33:=inA_size h
 have e:cellsOfP [(0,inV x),(1,outV o)]=coC ⟨x.tx,x.i,o.v,o.tw⟩:=by simp[cellsOfP,coC,inV,outV,inA,outA,keyC,outK,Value.cells]
 have:=built_struct (t:=137) (n:=35) underlying137 (by kernel_rfl) (places:=[(0,33),(33,2)]) (by kernel_rfl) (ps:=[(0,inV x),(1,outV o)]) (by
  refine⟨?_,?_,trivial⟩
  · show some (0,33)=some (0,(inA x).size)
    rw[hs]
  · show some (33,2)=some (0+(inA x).size,2)
    rw[hs]) (by rw[e,coC_len (c:=⟨x.tx,x.i,o.v,o.tw⟩) h])
 rw[this,e]
 rfl
def CoinsIn(w:World)(B:Nat)(A:Option Addr)(l:List CoinR):Prop:=CellsIn w B A (l.map coC).flatten
theorem rowsCo{l:List CoinR}(h: ∀c∈l,lenC c):isRows 35 (l.map coC):=fun x hx=>by
 obtain⟨t,ht,rfl⟩:=List.mem_map.1 hx
 exact coC_len (h t ht)
theorem okP.lens{p:List CoinR}(h:okP p): ∀c∈p,lenC c:=fun c hc=>(h c hc).len
theorem getP{l:List CoinR}(h:okP l){i:Nat}(hi:i<l.length):okCoin (l.getD i noC0):=by
 rw[gD,gE hi]
 exact h _ (List.getElem_mem hi)
theorem okP.take{p:List CoinR}(h:okP p)(k:Nat):okP (p.take k):=fun x hx=>h x (List.mem_of_mem_take hx)
theorem okP.drop{p:List CoinR}(h:okP p)(k:Nat):okP (p.drop k):=fun x hx=>h x (List.mem_of_mem_drop hx)
theorem CoinsIn.loads{w:World}{A:Option Addr}{l:List CoinR}(h:CoinsIn w w.heap.size A l)(hl:okP l){k:Nat}(hk:k<l.length): ∃ad,A=some ad∧ad.block<w.heap.size∧ ∀u,EnvX w u []→
   (loadVar 137 (ad.add (k*35))).run Tryz.prog u= .ok (coV (l.getD k noC0)) u∧
   (loadVar 133 (ad.add (k*35))).run Tryz.prog u= .ok (inV (keyC (l.getD k noC0))) u∧
   (loadVar 26 (ad.add (k*35))).run Tryz.prog u= .ok (idv (l.getD k noC0).tx) u∧
   (loadVar 3 ((ad.add (k*35)).add 32)).run Tryz.prog u= .ok (.int .i64 (l.getD k noC0).i) u∧
   (loadVar 135 ((ad.add (k*35)).add 33)).run Tryz.prog u= .ok (outV (outK (l.getD k noC0))) u∧
   (loadVar 3 ((ad.add (k*35)).add 33)).run Tryz.prog u= .ok (.int .i64 (l.getD k noC0).v) u∧
   (loadVar 3 ((ad.add (k*35)).add 34)).run Tryz.prog u= .ok (.int .i64 (l.getD k noC0).tw) u:=by
 obtain⟨ad,e,hb,hc⟩:=row_cells (d:=noC0) h (rowsCo hl.lens) (by decide) hk
 refine⟨ad,e,hb,fun u hu=>?_⟩
 have h32:=(getP hl hk).len
 have hcu: ∀j v,(coC (l.getD k noC0))[j]?=some v→u.cell? ((ad.add (k*35)).add j)=some v:=fun j v hv=>by
   rw[←hc j v hv]
   exact(EnvX.bel hu).cell (by rw[block_of_add,block_of_add];exact hb)
 generalize l.getD k noC0=t at *
 have cut: ∀(m:Nat) j v,((coC t).take m)[j]?=some v→(coC t)[j]?=some v:=fun m j v hj=>by
   rw[List.getElem?_take]at hj
   split at hj
   · exact hj
   · cases hj
 refine⟨run_loadAgg aggCo (coC t) (coC_len h32) hcu,?_,?_,run_load_one oneInt u (hcu 32 _ (coC_i h32)),?_,run_load_one oneInt u (hcu 33 _ (coC_v h32)),run_load_one oneInt u (hcu 34 _ (coC_to h32))⟩
 · exact run_loadAgg aggIn (inC (keyC t)) (inC_len (show lenI (keyC t)from h32)) (fun j v hv=>hcu j v (cut 33 j v (by rw[coC_in h32];exact hv)))
 · have:=run_loadAgg aggIdT (w:=u) (ad:=ad.add (k*35)) _ (idA_list (show t.tx.length=32 from h32)) (fun j v hv=>hcu j v (cut 32 j v (by rw[coC_tx h32];exact hv)))
   rwa[agg_list]at this
 · refine run_loadAgg aggOut (outC (outK t)) rfl (fun j v hv=>?_)
   rw[show ((ad.add (k*35)).add 33).add j=(ad.add (k*35)).add (33+j)by simp only[add_addN,Nat.add_assoc]]
   refine hcu (33+j) v ?_
   rw[←coC_out h32]at hv
   rw[List.getElem?_take]at hv
   split at hv
   · rw[List.getElem?_drop]at hv
     exact hv
   · cases hv
section
variable {a:Act}{dst:Option Tmp}{x y:Operand}{ty:TypeId}{pos:String}{after:Array Edge}{gd:Option (Nat × Bool)}
theorem fieldCo_op{k off:Nat}(hk:([(0,0),(1,33)]:List (Nat × Nat)).lookup k=some off){ad:Addr}(u:World)(hx:a.eval x= .pointer (some ad)):
  (execOp a.eval ⟨dst, .fieldAddr 137 x k,ty,pos,after,gd⟩).run Tryz.prog u= .ok (.value (.pointer (some (ad.add off)))) u:=by
 unfold execOp
 simp only[hx]
 rcases k with _|_|k
 all_goals first|(cases hk;go_simp)|cases hk
instance:FldT Tryz.prog 137 [(0,0),(1,33)]:=⟨fun h u k=>fieldCo_op h u k⟩
end
theorem findP_cases(p:List CoinR)(x:InR):(findP p x= -1∧ ∀c∈p,keyC c≠x)∨ ∃k,k<p.length∧findP p x=(k:Int)∧keyC (p.getD k noCoin)=x∧ ∀j,j<k→keyC (p.getD j noCoin)≠x:=by
 unfold findP
 cases h:p.findIdx? (fun c=>decide (keyC c=x))with
 |none=>
  refine .inl ⟨rfl,fun c hc e=>?_⟩
  have:=List.findIdx?_eq_none_iff.1 h c hc
  rw[e]at this
  simp at this
 |some k=>
  obtain⟨hk,h1,h2⟩:=List.findIdx?_eq_some_iff_getElem.1 h
  refine .inr ⟨k,hk,rfl,?_,fun j hj e=>?_⟩
  · rw[gD,gE hk]
    simpa using h1
  · have:=h2 j hj
    rw[gD,gE (by omega)]at e
    simp only[Option.getD_some]at e
    rw[e]at this
    simp at this
theorem findP_none{p:List CoinR}{x:InR}(h: ∀c∈p,keyC c≠x):findP p x= -1:=by
 rcases findP_cases p x with ⟨e,_⟩|⟨k,hk,_,e,_⟩
 · exact e
 · refine absurd e (h _ ?_)
   rw[gD,gE hk]
   exact List.getElem_mem hk
theorem findP_hit{p:List CoinR}{x:InR}{k:Nat}(hk:k<p.length)(h:keyC (p.getD k noCoin)=x)(hn: ∀j,j<k→keyC (p.getD j noCoin)≠x):findP p x=(k:Int):=by
 rcases findP_cases p x with ⟨_,e⟩|⟨j,hj,e,h1,h2⟩
 · refine absurd h (e _ ?_)
   rw[gD,gE hk]
   exact List.getElem_mem hk
 · rcases Nat.lt_trichotomy j k with g|g|g
   · exact absurd h1 (hn j g)
   · rw[e,g]
   · exact absurd h (h2 k g)
theorem mayP_iff{p:List CoinR}:mayP p=true↔p.length≤48∧(∀c∈p,boundC c=true)∧upP p:=by unfold mayP;rw[decide_eq_true_eq]
theorem thereP_no{p:List CoinR}{id:List Int}(h:thereP p id=false): ∀c∈p,c.tx≠id:=fun c hc e=>by
 unfold thereP at h
 rw[List.any_eq_false]at h
 exact h c hc (by simpa using e)
theorem bound_v{c:CoinR}(h:boundC c=true):1≤c.v:=by
 unfold boundC at h
 rw[decide_eq_true_eq]at h
 exact h.2.2.1
theorem new_bound{t:TxR}(hm:mayX t=true)(id:List Int): ∀c∈newC id 0 t.outs,boundC c=true:=fun c hc=>by
 obtain⟨_,h1,h2,h3⟩:=newC_mem hc
 obtain⟨_,_,h4,_,_,h5⟩:=mayX_iff.1 hm
 have h6:=h5 _ h3
 unfold boundC
 unfold mayOut outK at h6
 rw[decide_eq_true_eq]at *
 simp only at h6
 omega
theorem made_may{l:List CoinR}{t:TxR}(hl:idP l)(hu:upP l)(hb: ∀c∈l,boundC c=true)(hm:mayX t=true)(ht:thereP l (idX t)=false)(hlen:(madeP l (newC (idX t) 0 t.outs)).length≤48):mayP (madeP l (newC (idX t) 0 t.outs))=true:=by
 refine mayP_iff.2 ⟨hlen,fun c hc=>?_,?_⟩
 · rcases List.mem_append.1 ((madeP_perm _ _).mem_iff.1 hc)with h|h
   · exact new_bound hm _ c h
   · exact hb c h
 · refine madeP_up _ _ hl (fun c hc=>?_) hu (fun d hd c hc e=>?_) (newC_ne _ _ _)
   · rw[(newC_mem hc).1];exact idX_id t
   · exact thereP_no ht d hd (by rw[←(newC_mem hc).1];exact congrArg InR.tx e)
theorem made_sum(l:List CoinR)(t:TxR):sumV (madeP l (newC (idX t) 0 t.outs))=worthX t+sumV l:=by
 rw[sumV_perm (madeP_perm _ _),sumV_app,newC_sum]
 rfl
theorem made_idP{l:List CoinR}{t:TxR}(hl:idP l):idP (madeP l (newC (idX t) 0 t.outs)):=fun c hc=>by
 rcases List.mem_append.1 ((madeP_perm _ _).mem_iff.1 hc)with h|h
 · rw[(newC_mem h).1];exact idX_id t
 · exact hl c h
theorem spend_ok {p:List CoinR} {t:TxR} {q:List CoinR} {n:Int} (hp:idP p) (h:spendP p t=(q,n,0)):mayP p=true∧mayX t=true∧t.ins≠[]∧ ∃l m,takeP p t.ins=some (l,m)∧worthX t≤m∧thereP l (idX t)=false∧q=madeP l (newC (idX t) 0 t.outs)∧q.length≤48∧n=m- worthX t:=by
 unfold spendP at h
 split at h
 · rename_i hc
   simp only[Bool.and_eq_true,decide_eq_true_eq]at hc
   refine⟨hc.1.1,hc.1.2,hc.2,?_⟩
   cases ht:takeP p t.ins with
   |none=>rw[ht]at h;simp at h
   | some r=>
    obtain⟨l,m⟩:=r
    rw[ht]at h
    simp only at h
    split at h
    · simp at h
    · rename_i h1
      split at h
      · simp at h
      · rename_i h2
        split at h
        · simp at h
        · rename_i h3
          simp only[Prod.mk.injEq,and_true]at h
          exact⟨l,m,rfl,by omega,by simpa using h2,h.1.symm,by rw[←h.1];omega,h.2.symm⟩
 · simp at h
theorem spend_err {p:List CoinR} {t:TxR} {q:List CoinR} {n:Int} {e:Nat} (h:spendP p t=(q,n,e+1)):q=p∧n=0:=by
 unfold spendP at h
 split at h
 · cases ht:takeP p t.ins with
   |none=>
    rw[ht]at h
    simp only[Prod.mk.injEq]at h
    exact⟨h.1.symm,h.2.1.symm⟩
   |some r=>
    rw[ht]at h
    simp only at h
    split at h
    · simp only[Prod.mk.injEq]at h;exact⟨h.1.symm,h.2.1.symm⟩
    · split at h
      · simp only[Prod.mk.injEq]at h;exact⟨h.1.symm,h.2.1.symm⟩
      · split at h
        · simp only[Prod.mk.injEq]at h;exact⟨h.1.symm,h.2.1.symm⟩
        · simp at h
 · simp only[Prod.mk.injEq]at h
   exact⟨h.1.symm,h.2.1.symm⟩
theorem spend_may{p:List CoinR}{t:TxR}{q:List CoinR}{n:Int}(hp:idP p)(h:spendP p t=(q,n,0)):mayP q=true∧idP q∧sumV q+n=sumV p∧0≤n:=by
 obtain⟨hm,hx,_,l,m,ht,hw,hth,rfl,hl,rfl⟩:=spend_ok hp h
 obtain⟨_,hb,hu⟩:=mayP_iff.1 hm
 obtain⟨h1,h2,_,_,_⟩:=take_some _ _ _ ht
 simp only at h1 h2
 have hil:idP l:=fun c hc=>hp c (h1.subset hc)
 refine⟨made_may hil (hu.sublist h1) (fun c hc=>hb c (h1.subset hc)) hx hth hl,made_idP hil,?_,by omega⟩
 rw[made_sum]
 omega
theorem spend_all{p:List CoinR}(hp:idP p)(hm:mayP p=true)(t:TxR):mayP (spendP p t).1=true∧idP (spendP p t).1∧sumV (spendP p t).1+(spendP p t).2.1=sumV p∧0≤(spendP p t).2.1:=by
 rcases hs:spendP p t with ⟨q,n,e⟩
 cases e with
 |zero=>exact spend_may hp hs
 |succ e=>
  obtain⟨rfl,rfl⟩:=spend_err hs
  exact⟨hm,hp,by simp,Int.le_refl _⟩
theorem run_all: ∀(l:List TxR)(p:List CoinR)(n:Int)(q:List CoinR)(m:Int),idP p→mayP p=true→runP p n l= .ok (q,m)→mayP q=true∧idP q∧sumV q+m=sumV p+n∧n≤m
 |[],p,n,q,m,hp,hm,h=>by
  unfold runP at h
  cases h
  exact⟨hm,hp,rfl,Int.le_refl _⟩
 | t::l,p,n,q,m,hp,hm,h=>by
  unfold runP at h
  have ha:=spend_all hp hm t
  rcases hs:spendP p t with ⟨q1,n1,e⟩
  rw[hs]at h ha
  cases e with
  |zero=>
   simp only at h ha
   obtain⟨a,b,c,d⟩:=run_all l q1 (n+n1) q m ha.2.1 ha.1 h
   exact⟨a,b,by omega,by omega⟩
  |succ e=>simp only at h;cases h
theorem apply_all{p:List CoinR}(hp:idP p)(hm:mayP p=true)(l:List TxR):mayP (applyP p l).1=true∧idP (applyP p l).1∧sumV (applyP p l).1≤sumV p+50∧((applyP p l).2≠0→(applyP p l).1=p):=by
 have base:mayP p=true∧idP p∧sumV p≤sumV p+50∧(∀e:Nat,e≠0→p=p):=⟨hm,hp,by omega,fun _ _=>rfl⟩
 unfold applyP
 rw[if_neg (by rw[hm];decide)]
 split
 · exact⟨base.1,base.2.1,base.2.2.1,fun _=>rfl⟩
 · cases hr:runP p 0 (if loneX l=true then l.tail else l)with
   |error e=>exact⟨base.1,base.2.1,base.2.2.1,fun _=>rfl⟩
   | ok r=>
    obtain⟨q,n⟩:=r
    obtain⟨a,b,c,d⟩:=run_all _ _ _ _ _ hp hm hr
    obtain⟨_,hb,hu⟩:=mayP_iff.1 a
    cases l with
    |nil=>exact⟨a,b,by simp only;omega,fun h=>absurd rfl h⟩
    | cons t l =>
     simp only
     split
     · exact⟨a,b,by simp only;omega,fun h=>absurd rfl h⟩
     · split
       · exact⟨base.1,base.2.1,base.2.2.1,fun _=>rfl⟩
       · rename_i hx
         split
         · exact⟨base.1,base.2.1,base.2.2.1,fun _=>rfl⟩
         · rename_i hth
           split
           · exact⟨base.1,base.2.1,base.2.2.1,fun _=>rfl⟩
           · rename_i hw
             split
             · exact⟨base.1,base.2.1,base.2.2.1,fun _=>rfl⟩
             · rename_i hl
               refine⟨made_may b hu hb (by simpa using hx) (by simpa using hth) (by omega),made_idP b,?_,fun h=>absurd rfl h⟩
               simp only
               rw[made_sum]
               omega
theorem up_steps{p:List CoinR}(hp:idP p)(h: ∀i,i+1<p.length→beforeK (keyC (p.getD i noC0)) (keyC (p.getD (i+1) noC0))=true):upP p:=by
 have get: ∀i,(hi:i<p.length)→p.getD i noC0=p[i]:=fun i hi=>by rw[gD,gE hi];rfl
 have step: ∀d i,(hi:i+d+1<p.length)→beforeK (keyC (p[i]'(by omega))) (keyC p[i+d+1])=true:=by
  intro d
  induction d with
  |zero=>intro i hi;have:=h i hi;rwa[get i (by omega),get (i+1) hi]at this
  |succ d ih=>
   intro i hi
   have h1:=ih i (by omega)
   have h2:=h (i+d+1) hi
   rw[get (i+d+1) (by omega),get (i+d+1+1) (by omega)]at h2
   exact bef_trans (hp _ (List.getElem_mem _)) (hp _ (List.getElem_mem _)) (hp _ (List.getElem_mem _)) h1 h2
 refine List.pairwise_iff_getElem.2 fun i j hi hj hij=>?_
 obtain⟨d,rfl⟩: ∃d,j=i+d+1:=⟨j- i- 1,by omega⟩
 exact step d i hj
section
variable {dst:Option Tmp}{ty:TypeId}{pos:String}{after:Array Edge}{gd:Option (Nat × Bool)}
end
theorem take_snocC{α:Type}{l:List α}{i:Nat}(d:α)(hi:i<l.length):l.take (i+1)=l.take i++[l.getD i d]:=by
 rw[List.take_succ_eq_append_getElem hi,gD,gE hi]
 rfl
theorem newC_snoc(id:List Int): ∀(os:List OutR)(i:Int)(o:OutR),newC id i (os++[o])=newC id i os++[⟨id,i+os.length,o.v,o.tw⟩]
 |[],i,o=>by simp[newC]
 |x::os,i,o=>by
  have:=newC_snoc id os (i+1) o
  show _::newC id (i+1) (os++[o])=_::(newC id (i+1) os++_)
  rw[this]
  congr 3
  simp only[List.length_cons]
  congr 1
  push_cast
  omega
theorem madeP_len(p cs:List CoinR):(madeP p cs).length=cs.length+p.length:=by rw[(madeP_perm cs p).length_eq,lA]
theorem newC_ok{id:List Int}{os:List OutR}(hid:isId id)(ho: ∀o∈os,okOut o)(hl:os.length≤1000):okP (newC id 0 os):=fun c hc=>by
 obtain⟨h1,h2,h3,h4⟩:=newC_mem hc
 have h5:=ho _ h4
 refine⟨by rw[h1];exact hid,?_,h5.1,h5.2⟩
 unfold I64
 omega
theorem madeP_ok{p cs:List CoinR}(hp:okP p)(hc:okP cs):okP (madeP p cs):=fun c h=>by
 rcases List.mem_append.1 ((madeP_perm cs p).mem_iff.1 h)with h|h
 · exact hc c h
 · exact hp c h
theorem takeP_snoc: ∀(xs:List InR)(l:List CoinR)(x:InR),takeP l (xs++[x])=match takeP l xs with
  |none=>none
  |some r=>match r.1.find? (fun c=>decide (keyC c=x))with
   |none=>none
   |some c=>some (r.1.eraseP fun c=>decide (keyC c=x),r.2+c.v)
 |[],l,x=>by
  show takeP l [x]=_
  unfold takeP takeP
  simp only
  cases l.find? (fun c=>decide (keyC c=x))with
  |none=>rfl
  |some c=>simp
 | y::xs,l,x=>by
  show takeP l (y::(xs++[x]))=_
  unfold takeP
  cases l.find? (fun c=>decide (keyC c=y))with
  |none=>rfl
  | some c=>
   simp only
   rw[takeP_snoc xs]
   cases takeP (l.eraseP fun c=>decide (keyC c=y)) xs with
   |none=>rfl
   |some r=>
    simp only
    cases r.1.find? (fun c=>decide (keyC c=x))with
    |none=>rfl
    |some d=>simp only[Option.some.injEq,Prod.mk.injEq,true_and];omega
theorem takeP_more{l:List CoinR}{xs:List InR}(h:takeP l xs=none): ∀ys,takeP l (xs++ys)=none:=by
 intro ys
 induction xs generalizing l with
 |nil=>cases h
 | cons x xs ih=>
  unfold takeP at h
  show takeP l (x::(xs++ys))=none
  unfold takeP
  cases hf:l.find? (fun c=>decide (keyC c=x))with
  |none=>rfl
  |some c=>
   rw[hf]at h
   simp only at h
   cases ht:takeP (l.eraseP fun c=>decide (keyC c=x)) xs with
   |none=>simp only;rw[ih ht]
   |some r=>rw[ht]at h;cases h
theorem find_place{l:List CoinR}{x:InR}{k:Nat}(d:CoinR)(h:findP l x=(k:Int)):k<l.length∧l.find? (fun c=>decide (keyC c=x))=some (l.getD k d)∧(l.eraseP fun c=>decide (keyC c=x))=l.take k++l.drop (k+1):=by
 rcases findP_cases l x with ⟨e,_⟩|⟨j,hj,e,h1,h2⟩
 · omega
 · obtain rfl:j=k:=by omega
   clear e h
   have hd:l.getD j d=l.getD j noCoin:=by rw[gD,gE hj,gD,gE hj];rfl
   rw[hd]
   refine⟨hj,?_⟩
   induction l generalizing j with
   |nil=>cases hj
   | cons c l ih=>
    cases j with
    |zero=>
     have hc:keyC c=x:=h1
     exact⟨by rw[List.find?_cons_of_pos (by simpa using hc)];rfl,by rw[List.eraseP_cons_of_pos (by simpa using hc)];rfl⟩
    |succ j=>
     have hc:keyC c≠x:=h2 0 (by omega)
     have h3:=ih j (by simpa using hj) h1 (fun i hi=>h2 (i+1) (by omega)) (by rw[gD,gE (show j<l.length by simpa using hj),gD,gE (show j<l.length by simpa using hj)];rfl)
     refine⟨by rw[List.find?_cons_of_neg (by simpa using hc)];exact h3.1,by rw[List.eraseP_cons_of_neg (by simpa using hc),h3.2];rfl⟩
theorem find_nowhere{l:List CoinR}{x:InR}(h:findP l x= -1):l.find? (fun c=>decide (keyC c=x))=none:=by
 rcases findP_cases l x with ⟨_,e⟩|⟨j,_,e,_⟩
 · exact List.find?_eq_none.2 fun c hc=>by simpa using e c hc
 · omega
theorem take_stepC{p:List CoinR}{xs:List InR}{i:Nat}(dx:InR)(d:CoinR)(hi:i<xs.length){l:List CoinR}{n:Int}(h:takeP p (xs.take i)=some (l,n)){k:Nat}(hk:findP l (xs.getD i dx)=(k:Int)):
  takeP p (xs.take (i+1))=some (l.take k++l.drop (k+1),n+(l.getD k d).v):=by
 obtain⟨_,h1,h2⟩:=find_place d hk
 rw[take_snocC dx hi,takeP_snoc,h]
 simp only
 rw[h1,h2]
theorem take_stopC{p:List CoinR}{xs:List InR}{i:Nat}(dx:InR)(hi:i<xs.length){l:List CoinR}{n:Int}(h:takeP p (xs.take i)=some (l,n))(hk:findP l (xs.getD i dx)= -1):takeP p xs=none:=by
 have h1:takeP p (xs.take (i+1))=none:=by
  rw[take_snocC dx hi,takeP_snoc,h]
  simp only
  rw[find_nowhere hk]
 have:=takeP_more h1 (xs.drop (i+1))
 rwa[List.take_append_drop]at this
theorem runP_cons(p:List CoinR)(n:Int)(t:TxR)(l:List TxR):runP p n (t::l)=match spendP p t with
 |(q,m,0)=>runP q (n+m) l
 |(_,_,e+1)=> .error (e+1):=rfl
theorem runP_app: ∀(xs:List TxR)(p:List CoinR)(n:Int)(ys:List TxR),runP p n (xs++ys)=match runP p n xs with
  | .error e=> .error e
  | .ok (q,m)=>runP q m ys
 |[],p,n,ys=>rfl
 |t::xs,p,n,ys=>by
  show runP p n (t::(xs++ys))=_
  rw[runP_cons,runP_cons]
  rcases hs:spendP p t with ⟨q,m,e⟩
  cases e with
  |zero=>simp only;exact runP_app xs q (n+m) ys
  |succ e=>rfl
theorem getD_dC{p:List CoinR}{i:Nat}(h:i<p.length):p.getD i noC0=p.getD i noCoin:=by rw[gD,gE h,gD,gE h];rfl
theorem findP_hit0{p:List CoinR}{x:InR}{k:Nat}(hk:k<p.length)(h:keyC (p.getD k noC0)=x)(hn: ∀j,j<k→keyC (p.getD j noC0)≠x):findP p x=(k:Int):=
 findP_hit hk (by rw[←getD_dC hk];exact h) (fun j hj=>by rw[←getD_dC (by omega)];exact hn j hj)
theorem findP_none0{p:List CoinR}{x:InR}(h: ∀j,j<p.length→keyC (p.getD j noC0)≠x):findP p x= -1:=findP_none fun c hc=>by
 obtain⟨j,hj,rfl⟩:=List.getElem_of_mem hc
 have:=h j hj
 rwa[gD,gE hj]at this
theorem thereP_hit{p:List CoinR}{id:List Int}{k:Nat}(hk:k<p.length)(h:(p.getD k noC0).tx=id):thereP p id=true:=by
 unfold thereP
 rw[List.any_eq_true]
 exact⟨p.getD k noC0,by rw[gD,gE hk];exact List.getElem_mem hk,by simpa using h⟩
theorem bound_v2{c:CoinR}(h:boundC c=true):1≤c.v∧c.v≤1099511627776:=by
 unfold boundC at h
 rw[decide_eq_true_eq]at h
 exact⟨h.2.2.1,h.2.2.2.1⟩
theorem sumV_bound: ∀{p:List CoinR},(∀c∈p,boundC c=true)→0≤sumV p∧sumV p≤1099511627776*p.length
 |[],_=>by simp[sumV]
 |c::p,h=>by
  have h1:=sumV_bound (p:=p) (fun d hd=>h d (mT hd))
  have h2:=bound_v2 (h c (List.mem_cons_self ..))
  rw[sumV_cons,List.length_cons]
  push_cast
  omega
def worthL(l:List OutR):Int:=(l.map (·.v)).sum
theorem worthL_step{l:List OutR}{i:Nat}(d:OutR)(hi:i<l.length):worthL (l.take (i+1))=worthL (l.take i)+(l.getD i d).v:=by
 rw[take_snocC d hi]
 unfold worthL
 rw[List.map_append,List.sum_append]
 simp
theorem outV_bound{o:OutR}(h:mayOut o=true):1≤o.v∧o.v≤1099511627776:=by
 unfold mayOut at h
 rw[decide_eq_true_eq]at h
 exact⟨h.1,h.2.1⟩
theorem worthL_bound: ∀{l:List OutR},(∀o∈l,mayOut o=true)→0≤worthL l∧worthL l≤1099511627776*l.length
 |[],_=>by simp[worthL]
 |c::p,h=>by
  have h1:=worthL_bound (l:=p) (fun d hd=>h d (mT hd))
  have h2:=outV_bound (h c (List.mem_cons_self ..))
  have e:worthL (c::p)=c.v+worthL p:=by unfold worthL;rw[List.map_cons,List.sum_cons]
  rw[e,List.length_cons]
  push_cast
  omega
theorem box_idvP{w0 u:World}{M:Boxes}{g:Nat}{ty:TypeId}{ys:List Int}(hu:EnvC w0 M u)(hm:(g,oc (arrB 32 ys) ty)∈M)(h:ys.length=32):(loadVar 26 ⟨g,0,none⟩).run Tryz.prog u= .ok (idv ys) u:=by
 have:=box_agg aggIdT (k:=0) hu hm _ (idA_list h) (by rw[List.drop_zero,tL (by rw[idA_list h];exact Nat.le_refl _)])
 rwa[Array.toArray_toList]at this
def CoSl(w:World)(v:Value)(q:List CoinR):Prop:= ∃A c,v= .slice A q.length c∧q.length≤c∧c≤maxLen∧CoinsIn w w.heap.size A q
theorem coins_split(l:List CoinR)(k:Nat):(l.map coC).flatten=((l.take k).map coC).flatten++((l.drop k).map coC).flatten:=by rw[←List.flatten_append,←List.map_append,List.take_append_drop]
theorem CoinsIn.first{w:World}{B:Nat}{A:Option Addr}{l:List CoinR}(h:CoinsIn w B A l)(k:Nat):CoinsIn w B A (l.take k):=by
 unfold CoinsIn at *
 intro hp
 have e:=coins_split l k
 obtain⟨ad,e1,hb,hc⟩:=h (by rw[e,lA];omega)
 refine⟨ad,e1,hb,fun j v hj=>hc j v ?_⟩
 rw[e,List.getElem?_append_left]
 · exact hj
 · rcases Nat.lt_or_ge j ((l.take k).map coC).flatten.length with h'|h'
   · exact h'
   · rw[gN h']at hj;cases hj
theorem CoinsIn.rest{w:World}{B:Nat}{A:Option Addr}{l:List CoinR}(h:CoinsIn w B A l)(hl: ∀c∈l,lenC c){k c:Nat}(hk:k≤l.length)(hc:l.length≤c):CellsIn w B (cutX 35 A k c) ((l.drop k).map coC).flatten:=by
 have e:=coins_split l k
 have hlen:((l.take k).map coC).flatten.length=k*35:=by
  rw[(rowsCo (fun x hx=>hl x (List.mem_of_mem_take hx))).flat_len,lM,List.length_take,Nat.min_eq_left hk]
 have hd:((l.drop k).map coC).flatten=(l.map coC).flatten.drop (k*35):=by rw[e,List.drop_left' hlen]
 rw[hd]
 refine CellsIn.drop h 35 k c ?_
 rcases Nat.lt_or_ge k c with h'|h'
 · exact .inl h'
 · refine .inr ?_
   rw[(rowsCo hl).flat_len,lM]
   have:l.length=k:=by omega
   rw[this]
   exact Nat.le_refl _
theorem flat35{l:List CoinR}(hl: ∀c∈l,lenC c):(l.map coC).flatten.length=l.length*35:=by rw[(rowsCo hl).flat_len,lM]
theorem coins_one(l:List CoinR): ∀u∈(l.map coC).flatten,u.oneCell'=true:=fun u hu=>by
 obtain⟨r,hr,h⟩:=List.mem_flatten.1 hu
 obtain⟨c,_,rfl⟩:=List.mem_map.1 hr
 exact coC_one c u h
theorem take_bounds{p:List CoinR}(hm:mayP p=true)(hp:okP p){xs:List InR}{l:List CoinR}{m:Int}(h:takeP p xs=some (l,m)):okP l∧l.length≤48∧0≤m∧m≤52776558133248∧(∀c∈l,boundC c=true):=by
 obtain⟨h1,h2,h3,_,h5⟩:=take_some _ _ _ h
 simp only at h1 h2 h3 h5
 obtain⟨k1,k2,_⟩:=mayP_iff.1 hm
 have hb: ∀c∈l,boundC c=true:=fun c hc=>k2 c (h1.subset hc)
 have b1:=sumV_bound hb
 have b2:=sumV_bound k2
 have hl:=h1.length_le
 refine⟨fun c hc=>hp c (h1.subset hc),by omega,h5 (fun d hd=>by have:=bound_v (k2 d hd);omega),by omega,hb⟩
theorem spend_arg1{p:List CoinR}{t:TxR}(h:mayP p=false):spendP p t=(p,0,1):=by unfold spendP;rw[h];rfl
theorem spend_arg2{p:List CoinR}{t:TxR}(h:mayX t=false):spendP p t=(p,0,1):=by unfold spendP;rw[h,Bool.and_false];rfl
theorem spend_arg3{p:List CoinR}{t:TxR}(h:t.ins=[]):spendP p t=(p,0,1):=by
 unfold spendP
 rw[if_neg (by rw[h];simp)]
theorem spend_none{p:List CoinR}{t:TxR}(h1:mayP p=true)(h2:mayX t=true)(h3:t.ins≠[])(h:takeP p t.ins=none):spendP p t=(p,0,8):=by
 unfold spendP
 rw[h1,h2,if_pos (by simpa using h3),h]
theorem spend_some{p:List CoinR}{t:TxR}(h1:mayP p=true)(h2:mayX t=true)(h3:t.ins≠[]){l:List CoinR}{m:Int}(h:takeP p t.ins=some (l,m)):spendP p t=if m<worthX t then (p,0,8)else if thereP l (idX t)then (p,0,10)else if 48<(madeP l (newC (idX t) 0 t.outs)).length then (p,0,11)else (madeP l (newC (idX t) 0 t.outs),m- worthX t,0):=by
 unfold spendP
 rw[h1,h2,if_pos (by simpa using h3),h]
theorem okP_of{q:List CoinR}(h1:idP q)(h2: ∀c∈q,boundC c=true):okP q:=fun c hc=>by
 have h:=h2 c hc
 unfold boundC at h
 rw[decide_eq_true_eq]at h
 refine⟨h1 c hc,?_,?_,?_⟩<;>(unfold I64;omega)
theorem run_bounds{p:List CoinR}(hm:mayP p=true)(hp:okP p){l:List TxR}{q:List CoinR}{m:Int}(h:runP p 0 l= .ok (q,m)):okP q∧q.length≤48∧0≤m∧m≤52776558133248∧mayP q=true:=by
 obtain⟨a,b,c,d⟩:=run_all _ _ _ _ _ hp.id hm h
 obtain⟨k1,k2,_⟩:=mayP_iff.1 a
 have b1:=sumV_bound k2
 have b2:=sumV_bound (mayP_iff.1 hm).2.1
 have b3:=(mayP_iff.1 hm).1
 exact⟨okP_of b k2,k1,d,by omega,a⟩
theorem apply_arg{p:List CoinR}{l:List TxR}(h:mayP p=false):applyP p l=(p,1):=by unfold applyP;rw[if_pos h]
theorem apply_size{p:List CoinR}{l:List TxR}(h:mayP p=true)(h2:4<l.length):applyP p l=(p,3):=by unfold applyP;rw[if_neg (by rw[h];decide),if_pos h2]
theorem apply_err{p:List CoinR}{l:List TxR}(h:mayP p=true)(h2: ¬4<l.length){e:Nat}(hr:runP p 0 (if loneX l then l.tail else l)= .error e):applyP p l=(p,e):=by
 unfold applyP
 rw[if_neg (by rw[h];decide),if_neg h2]
 have hr':runP p 0 (if loneX l=true then l.tail else l)= .error e:=hr
 rw[hr']
theorem apply_out{p:List CoinR}{l:List TxR}(h:mayP p=true)(h2: ¬4<l.length){q:List CoinR}{m:Int}(hr:runP p 0 (if loneX l then l.tail else l)= .ok (q,m))(hl:loneX l=false):applyP p l=(q,0):=by
 unfold applyP
 rw[if_neg (by rw[h];decide),if_neg h2]
 have hr':runP p 0 (if loneX l=true then l.tail else l)= .ok (q,m):=hr
 rw[hr']
 cases l with
 |nil=>rfl
 |cons t l=>
  simp only
  rw[if_pos (by unfold loneX at hl;simpa using hl)]
theorem apply_lone{p:List CoinR}{l:List TxR}(h:mayP p=true)(h2: ¬4<l.length){q:List CoinR}{m:Int}(hr:runP p 0 (if loneX l then l.tail else l)= .ok (q,m))(hl:loneX l=true)(d:TxR):applyP p l=
  if mayX (l.getD 0 d)=false then (p,1)else if thereP q (idX (l.getD 0 d))then (p,10)else if 50+m<worthX (l.getD 0 d)then (p,8)else if 48<(madeP q (newC (idX (l.getD 0 d)) 0 (l.getD 0 d).outs)).length then (p,11)else (madeP q (newC (idX (l.getD 0 d)) 0 (l.getD 0 d).outs),0):=by
 unfold applyP
 rw[if_neg (by rw[h];decide),if_neg h2]
 have hr':runP p 0 (if loneX l=true then l.tail else l)= .ok (q,m):=hr
 rw[hr']
 cases l with
 |nil=>cases hl
 |cons t l=>
  simp only
  rw[if_neg (by unfold loneX at hl;simpa using hl)]
  rfl
theorem lone_get{l:List TxR}(d:TxR)(h:0<l.length):loneX l=decide ((l.getD 0 d).ins=[]):=by
 cases l with
 |nil=>cases h
 |cons t l=>rfl
section
variable {a:Act}{dst:Option Tmp}{x y:Operand}{ty:TypeId}{pos:String}{after:Array Edge}{gd:Option (Nat × Bool)}
theorem neErr_op{m k:Int}{b:Bool}(u:World)(hb:decide (m≠k)=b)(hx:a.eval x= .int .i64 m)(hy:a.eval y= .int .i64 k):
  (execOp a.eval ⟨dst, .binOp .neq 42 x y 42,ty,pos,after,gd⟩).run Tryz.prog u= .ok (.value (.bool b)) u:=by
 have e:(m !=k)=b:=by rw[←hb];by_cases h:m=k<;>simp[h]
 subst e
 unfold execOp
 simp only[hx,hy]
 go_simp
end
section
variable {a:Act}{dst:Option Tmp}{x y:Operand}{ty:TypeId}{pos:String}{after:Array Edge}{gd:Option (Nat × Bool)}
end
section
variable {w0 u:World}{M:Boxes}{g:Nat}{t:TypeId}
theorem cells_box{cs:Array Value}{L:List Value}(hu:EnvC w0 M u)(hm:(g,oc cs t)∈M)(h:cs.toList=L):CellsIn u u.heap.size (some ⟨g,0,none⟩) L:=fun _=>
 ⟨_,rfl,EnvX.lt hu hm,fun j v hj=>by
  rw[Addr.add_mid,Nat.zero_add]
  exact box_cell hu hm (by rw[←h]at hj;rwa[Array.getElem?_toList]at hj)⟩
end
def fewX(t:TxR):Bool:=decide (t.ins.length≤6∧t.outs.length≤6)
theorem fewX_eq{t:TxR}{n1 n2:Nat}(h1:t.ins.length=n1)(h2:t.outs.length=n2):fewX t=(decide ((n1:Int)≤6) && decide ((n2:Int)≤6)):=by
 unfold fewX
 rw[h1,h2,Bool.eq_iff_iff]
 simp only[decide_eq_true_eq,Bool.and_eq_true]
 omega
theorem few_one(r:TxR)(A1:Option Addr)(n1 c1:Nat)(A2:Option Addr)(n2 c2:Nat)(w:World)(ht:TxOk w ⟨r,A1,n1,c1,A2,n2,c2⟩):
  Rz 37 #[txV ⟨r,A1,n1,c1,A2,n2,c2⟩] w (.bool (fewX r)):=by
 unfold Rz
 have hfe:=fewX_eq ht.l1 ht.l2
 have HN63:=hD ht.n63
 have E1:Hid (EnvX w (w.alloc (.cells (txA ⟨r,A1,n1,c1,A2,n2,c2⟩) 77)) [(w.heap.size,oc (txA ⟨r,A1,n1,c1,A2,n2,c2⟩) 77)]):=(EnvX.start w).new _
 dsimp only at hfe
 rw[hfe]
 clear hfe ht
 obtain⟨d,hd⟩: ∃d,decide ((n2:Int)≤6)=d:=⟨_,rfl⟩
 have HD:=hD hd
 rw[hd]
 clear hd
 unfold txV
 cases hb:decide ((n1:Int)≤6)with
 |false=>
  have C1:=hD hb
  clear hb
  go_enter func37,ntmps37
  go_upto_region 1 with (fail)
  generalize w.alloc (.cells (txA ⟨r,A1,n1,c1,A2,n2,c2⟩) 77)=W at *
  refine rgQ [0,1,2,3,4,5,6,7,8,9,10] [] E1 rfl fun hw=>?_
  refine qo rfl hw ?_
  refine ql rfl mH trivial hw ?_
  refine qv rfl (fun u hu=>len_op underlying74 HN63.out.1 u rfl) hw ?_
  refine qv rfl (fun u hu=>leZ_op u C1.out rfl rfl) hw ?_
  refine qw 7 hw ?_
  refine enP fun u3 EX2=>?_
  have HBE:=hD (EnvX.bel EX2.out)
  go_wp2
  go_ret
  exact⟨rfl,HBE.out⟩
 |true=>
  have C1:=hD hb
  clear hb
  go_enter func37,ntmps37
  go_upto_region 1 with (fail)
  generalize w.alloc (.cells (txA ⟨r,A1,n1,c1,A2,n2,c2⟩) 77)=W at *
  refine rgQ [0,1,2,3,4,5,6,7,8,9,10] [] E1 rfl fun hw=>?_
  refine qo rfl hw ?_
  refine ql rfl mH trivial hw ?_
  refine qv rfl (fun u hu=>len_op underlying74 HN63.out.1 u rfl) hw ?_
  refine qv rfl (fun u hu=>leZ_op u C1.out rfl rfl) hw ?_
  refine qw 2 hw ?_
  refine ql rfl mH trivial hw ?_
  refine qv rfl (fun u hu=>len_op underlying75 HN63.out.2 u rfl) hw ?_
  refine qv rfl (fun u hu=>leZ_op u HD.out rfl rfl) hw ?_
  refine qw 2 hw ?_
  refine enP fun u3 EX2=>?_
  have HBE:=hD (EnvX.bel EX2.out)
  go_wp2
  go_ret
  exact⟨rfl,HBE.out⟩
theorem few_any(t:TxM)(w:World)(ht:TxOk w t):Rz 37 #[txV t] w (.bool (fewX t.r)):=by
 unfold Rz
 obtain⟨r,A1,n1,c1,A2,n2,c2⟩:=t
 exact few_one r A1 n1 c1 A2 n2 c2 w ht
def CoB(q:List CoinR)(A:Option Addr)(N:Boxes):Prop:=((q.map coC).flatten=[]∧N=[])∨
  ∃ad o,A=some ad∧N=[(ad.block,o)]∧ ∀u:World,u.heap[ad.block]?=some o→ ∀j v,((q.map coC).flatten)[j]?=some v→u.cell? (ad.add j)=some v
theorem CoB.read{q:List CoinR}{A:Option Addr}{N M:Boxes}{w0 u:World}(h:CoB q A N)(hu:EnvX w0 u M)(hN: ∀y∈N,y∈M):CoinsIn u u.heap.size A q:=by
 intro hp
 rcases h with ⟨h,_⟩|⟨ad,o,rfl,rfl,hc⟩
 · rw[h]at hp;exact absurd hp (Nat.lt_irrefl 0)
 · have hm:=hN _ (mS.2 rfl)
   exact⟨ad,rfl,hu.lt hm,hc u (hu.box _ _ hm)⟩
theorem CoB.of{q:List CoinR}{A:Option Addr}{w:World}(h:CoinsIn w w.heap.size A q): ∃N,CoB q A N∧ ∀y∈N,w.heap[y.1]?=some y.2:=by
 by_cases h0:(q.map coC).flatten=[]
 · exact⟨[], .inl ⟨h0,rfl⟩,fun y hy=>by cases hy⟩
 · obtain⟨ad,rfl,hb,hc⟩:=h (List.length_pos_iff.2 h0)
   refine⟨[(ad.block,w.heap[ad.block])], .inr ⟨ad,_,rfl,rfl,fun u hu j v hv=>?_⟩,fun y hy=>by cases mS.1 hy;exact Array.getElem?_eq_getElem hb⟩
   have h1:=hc j v hv
   have hbl:(ad.add j).block=ad.block:=block_of_add _ _
   unfold World.cell? at h1 ⊢
   rw[hbl]at h1 ⊢
   rw[hu]
   rw[Array.getElem?_eq_getElem hb]at h1
   exact h1
theorem co_turn2{f:FuncId}{args:Array Value}{u w0:World}{M:Boxes}{q:List CoinR}{x:Value}(h:Calls Tryz.prog f args u fun e w'=>(∃v,e= .returned (.tuple #[v,x])∧CoSl w' v q)∧Below u.heap.size u w')(hu:EnvX w0 u M):
  Calls Tryz.prog f args u fun e w'=> ∃r M',e= .returned r∧EnvX w0 w' M'∧ ∃A c N,r= .tuple #[.slice A q.length c,x]∧M'=N++M∧(q.length≤c∧c≤maxLen)∧CoB q A N:=
 h.mono fun e w'⟨⟨v,he,A,c,hv,h1,h2,h3⟩,hb⟩=>by
  subst hv
  obtain⟨N,hN,hbx⟩:=CoB.of h3
  have hE:=EnvX.below hu hb
  refine⟨_,N++M,he,⟨hE.bel,fun g o hm=>?_⟩,A,c,N,rfl,rfl,⟨h1,h2⟩,hN⟩
  rcases List.mem_append.1 hm with h|h
  · exact hbx _ h
  · exact hE.box g o h
attribute [local go_sem ↓] Go.wp_at_zero Go.wp_at_succ
def topN(a k:Nat):Nat:=a/2^ (256- k)
theorem top_zero(a:Nat)(h:a<Big):topN a 0=0:=by
 unfold topN
 rw[Big_eq]at h
 exact Nat.div_eq_of_lt h
theorem top_all(a:Nat):topN a 256=a:=by
 unfold topN
 simp
theorem top_step(a k:Nat)(h:k<256):topN a (k+1)=2*topN a k+bitN a (255- k):=by
 unfold topN bitN
 have e:256- k=(256- (k+1))+1:=by omega
 rw[e,Nat.pow_succ,←Nat.div_div_eq_div_mul,show 255- k=256- (k+1)by omega]
 omega
theorem top_lt(a k:Nat)(h:a<Big)(hk:k≤256):topN a k<2^k:=by
 unfold topN
 rw[Big_eq]at h
 rw[Nat.div_lt_iff_lt_mul (Nat.two_pow_pos _),←Nat.pow_add,show k+(256- k)=256 by omega]
 exact h
theorem bitN_lt(a i:Nat):bitN a i<2:=Nat.mod_lt _ (by omega)
theorem or_even(v b:Nat)(hv:v<18446744073709551616)(h2:v % 2=0)(hb:b<2):bits .or .u64 (v:Int) (b:Int)=((v+b:Nat):Int):=by
 rw[bits_or_u64_nat v b hv (by omega)]
 congr 1
 have h:=Nat.shiftLeft_add_eq_or_of_lt (a:=v/2) (b:=b) (i:=1) (by omega)
 rw[Nat.shiftLeft_eq]at h
 rw[show v/2*2^1=v by omega]at h
 exact h.symm
theorem W0(m:Nat):W m 0=m % 18446744073709551616:=by
 unfold W
 simp
theorem wc_set_bit(v b:Nat)(hv:v<Big)(h2:v % 2=0)(hb:b<2):(wcs v).setIfInBounds 0 (.int .u64 (bits .or .u64 (W v 0) b))=wcs (v+b):=by
 obtain⟨x,y,z,u,rfl,hx,hy,hz,hu⟩:=split4 v hv
 have e:mk4 x y z u+b=mk4 (x+b) y z u:=by unfold mk4;omega
 have hx2:x % 2=0:=by unfold mk4 at h2;omega
 have ew:W (mk4 x y z u) 0=x:=by rw[W0];unfold mk4;omega
 rw[e,ew,or_even x b hx hx2 hb]
 unfold wcs
 rw[wl_mk4 x y z u hx hy hz hu,wl_mk4 (x+b) y z u (by omega) hy hz hu]
 rfl
theorem div_round(a b k:Nat)(hb:0<b)(hB:b<Big)(l v:Nat)(hl:l=topN a k % b)(hv:v=2*l+bitN a (255- k))(hk:k<256):
   (b≤v→topN a (k+1) /b=2*(topN a k/b)+1∧topN a (k+1) % b=v- b)∧(v<b→topN a (k+1) /b=2*(topN a k/b)∧topN a (k+1) % b=v):=by
 have ht:=top_step a k hk
 have hlb:l<b:=hl ▸ Nat.mod_lt _ hb
 have hbit:=bitN_lt a (255- k)
 have e:topN a (k+1)=b*(2*(topN a k/b))+v:=by
   rw[ht,hv,hl]
   have:=Nat.div_add_mod (topN a k) b
   generalize topN a k/b=q at *
   rw[show b*(2*q)=2*(b*q)by rw[Nat.mul_left_comm]]
   omega
 constructor
 · intro h
   have e2:topN a (k+1)=(v- b)+b*(2*(topN a k/b)+1):=by
    rw[e,Nat.mul_add,Nat.mul_one];omega
   have hlt:v- b<b:=by omega
   rw[e2,Nat.add_mul_div_left _ _ hb,Nat.add_mul_mod_self_left,Nat.div_eq_of_lt hlt,Nat.mod_eq_of_lt hlt]
   exact⟨by omega,rfl⟩
 · intro h
   rw[e,Nat.mul_add_div hb,Nat.mul_add_mod,Nat.div_eq_of_lt h,Nat.mod_eq_of_lt h]
   exact⟨by omega,rfl⟩
structure DivAt(w u:World)(g a b q l:Nat):Prop where
  a:u.heap[g]?=some (.cells (wcs a) 32 (0,0))
  b:u.heap[g+1]?=some (.cells (wcs b) 32 (0,0))
  r:u.heap[g+1+1]?=some (.cells (wcs 0) 32 (0,0))
  s:u.heap[g+1+1+1]?=some (.cells (wcs 0) 32 (0,0))
  q:u.heap[g+1+1+1+1]?=some (.cells (wcs q) 32 (0,0))
  l:u.heap[g+1+1+1+1+1]?=some (.cells (wcs l) 32 (0,0))
  lt:g+1+1+1+1+1<u.heap.size
  bel:Below g w u
theorem DivAt.below{w u v:World}{g a b q l:Nat}(h:DivAt w u g a b q l)(hb:Below u.heap.size u v):DivAt w v g a b q l:=by
 have:=h.lt
 exact⟨(hb.block _ (by omega)).trans h.a,(hb.block _ (by omega)).trans h.b,(hb.block _ (by omega)).trans h.r,(hb.block _ (by omega)).trans h.s,(hb.block _ (by omega)).trans h.q,(hb.block _ (by omega)).trans h.l,Nat.lt_of_lt_of_le h.lt hb.size,h.bel.trans (hb.mono (by omega))⟩
theorem DivAt.setL{w u:World}{g a b q l l':Nat}(h:DivAt w u g a b q l):DivAt w (u.setRow (g+1+1+1+1+1) (wcs l')) g a b q l':=by
 have:=h.lt
 exact⟨(setRow_other _ _ _ _ (by omega)).trans h.a,(setRow_other _ _ _ _ (by omega)).trans h.b,(setRow_other _ _ _ _ (by omega)).trans h.r,(setRow_other _ _ _ _ (by omega)).trans h.s,(setRow_other _ _ _ _ (by omega)).trans h.q,setRow_heap _ _ (wcs l) _ _ _ h.l,by rw[size_setRow];exact h.lt,below_setRow h.bel (by omega) _⟩
theorem DivAt.setQ{w u:World}{g a b q l q':Nat}(h:DivAt w u g a b q l):DivAt w (u.setRow (g+1+1+1+1) (wcs q')) g a b q' l:=by
 have:=h.lt
 exact⟨(setRow_other _ _ _ _ (by omega)).trans h.a,(setRow_other _ _ _ _ (by omega)).trans h.b,(setRow_other _ _ _ _ (by omega)).trans h.r,(setRow_other _ _ _ _ (by omega)).trans h.s,setRow_heap _ _ (wcs q) _ _ _ h.q,(setRow_other _ _ _ _ (by omega)).trans h.l,by rw[size_setRow];exact h.lt,below_setRow h.bel (by omega) _⟩
theorem DivAt.drew{w u:World}{g a b q l:Nat}(h:DivAt w u g a b q l):DivAt w u.drew g a b q l:=⟨h.a,h.b,h.r,h.s,h.q,h.l,h.lt,h.bel.drew⟩
theorem DivAt.alloc{w u:World}{g a b q l:Nat}(h:DivAt w u g a b q l)(o:Obj):DivAt w (u.alloc o) g a b q l:=h.below ((Below.refl _ _).alloc (Nat.le_refl _) _)
theorem DivAt.bitL{w u:World}{g a b q l c:Nat}(h:DivAt w u g a b q l)(hl:l<Big)(h2:l % 2=0)(hc:c<2):DivAt w (u.setCell ⟨g+1+1+1+1+1,0,none⟩ (.int .u64 (bits .or .u64 (W l 0) c))) g a b q (l+c):=by
 have:=h.lt
 have ra:Row u g 32 (wcs a):=h.a
 have rb:Row u (g+1) 32 (wcs b):=h.b
 have rr:Row u (g+1+1) 32 (wcs 0):=h.r
 have rs:Row u (g+1+1+1) 32 (wcs 0):=h.s
 have rq:Row u (g+1+1+1+1) 32 (wcs q):=h.q
 have rl:Row u (g+1+1+1+1+1) 32 (wcs l):=h.l
 exact⟨ra.farAt (by omega) _,rb.farAt (by omega) _,rr.farAt (by omega) _,rs.farAt (by omega) _,rq.farAt (by omega) _,by rw[←wc_set_bit l c hl h2 hc];exact rl.put 0 _,by simpa using h.lt,h.bel.setCell (by simp;omega) _⟩
theorem DivAt.bitQ{w u:World}{g a b q l c:Nat}(h:DivAt w u g a b q l)(hl:q<Big)(h2:q % 2=0)(hc:c<2):DivAt w (u.setCell ⟨g+1+1+1+1,0,none⟩ (.int .u64 (bits .or .u64 (W q 0) c))) g a b (q+c) l:=by
 have:=h.lt
 have ra:Row u g 32 (wcs a):=h.a
 have rb:Row u (g+1) 32 (wcs b):=h.b
 have rr:Row u (g+1+1) 32 (wcs 0):=h.r
 have rs:Row u (g+1+1+1) 32 (wcs 0):=h.s
 have rq:Row u (g+1+1+1+1) 32 (wcs q):=h.q
 have rl:Row u (g+1+1+1+1+1) 32 (wcs l):=h.l
 exact⟨ra.farAt (by omega) _,rb.farAt (by omega) _,rr.farAt (by omega) _,rs.farAt (by omega) _,by rw[←wc_set_bit q c hl h2 hc];exact rq.put 0 _,rl.farAt (by omega) _,by simpa using h.lt,h.bel.setCell (by simp;omega) _⟩
attribute [local go_sem ↓] Go.wp_at_zero Go.wp_at_succ
theorem up_one(m:Nat)(w:World)(hm:m<Big):
  Rz 118 #[.agg (wcs m), .int .i64 1] w (.agg (wcs (2*m % Big))):=by
 unfold Rz
 have h:=up_any m 1 w hm (by decide)
 rw[show m*2^1=2*m by omega]at h
 exact h
theorem bit_top(m:Nat)(w:World):
 Calls Tryz.prog 218 #[.agg (wcs m), .int .i64 255] w fun e w'=>e= .returned (.int .u64 (bitN m 255))∧w'=w.alloc (.cells (wcs m) 32):=bit_n m 255 w (by decide)
theorem bit_at(m k:Nat)(w:World)(hk:k<256):
  Calls Tryz.prog 218 #[.agg #[.int .u64 (W m 0), .int .u64 (W m 1), .int .u64 (W m 2), .int .u64 (W m 3)], .int .i64 (255- (k:Int))] w fun e w'=>e= .returned (.int .u64 (bitN m (255- k)))∧w'=w.alloc (.cells #[.int .u64 (W m 0), .int .u64 (W m 1), .int .u64 (W m 2), .int .u64 (W m 3)] 32):=by
 have h:=bit_n m (255- k) w (by omega)
 rw[wc_cells,show ((255- k:Nat):Int)=255- (k:Int)by omega]at h
 exact h
theorem div_cases(a b k l c l1:Nat)(hlb:l<b)(hb:b<Big)(hc:bitN l 255=c)(hl1:2*l % Big=l1):l1+bitN a (255- k)<Big∧
   ((c=1∧ ¬b≤l1+bitN a (255- k)∧b≤2*l+bitN a (255- k)∧(l1+bitN a (255- k)+(Big- b)) % Big=2*l+bitN a (255- k) - b)∨
    (c=0∧b≤l1+bitN a (255- k)∧b≤2*l+bitN a (255- k)∧(l1+bitN a (255- k)+(Big- b)) % Big=2*l+bitN a (255- k) - b)∨
    (c=0∧ ¬b≤l1+bitN a (255- k)∧2*l+bitN a (255- k)<b∧l1+bitN a (255- k)=2*l+bitN a (255- k))):=by
 have he:=bitN_lt a (255- k)
 generalize bitN a (255- k)=e at *
 unfold bitN at hc
 rw[show 2^255=57896044618658097711785492504343953926634992332820282019728792003956564819968 from rfl]at hc
 unfold Big at *
 by_cases h:l<57896044618658097711785492504343953926634992332820282019728792003956564819968
 · have hc0:c=0:=by omega
   by_cases h2:b≤l1+e
   · exact⟨by omega, .inr (.inl ⟨hc0,h2,by omega,by omega⟩)⟩
   · exact⟨by omega, .inr (.inr ⟨hc0,h2,by omega,by omega⟩)⟩
 · exact⟨by omega, .inl ⟨by omega,by omega,by omega,by omega⟩⟩
theorem put_none(a:Act)(v:Value):a.put none v=a:=rfl
theorem div_yes (a b:Nat) (w:World) (ha:a<Big) (hb:b<Big) (hb0:0<b):
  Rz 195 #[.agg (wcs a), .agg (wcs b)] w (.tuple #[.agg (wcs (a/b)), .agg (wcs (a % b)), .bool true]):=by
 unfold Rz
 have HA:=hD ha
 have HB:=hD hb
 have HB0:=hD hb0
 have heq:=eql_zero b hb
 have hz:eqN b 0=false:=by simp[eqN];omega
 rw[hz]at heq
 clear ha hb hb0 hz
 have R1:Hid (((((w.alloc (.cells (wcs a) 32)).alloc (.cells (wcs b) 32)).alloc (.cells (wcs 0) 32)).alloc (.cells (wcs 0) 32)).heap[w.heap.size+1]?=some (.cells (wcs b) 32 (0,0))):=((Row.newAt (by simp) 32 _).alloc _).alloc _
 go_enter func195,ntmps195
 go_wp2_with ((with_reducible refine wpList_load_row (o:=⟨some 13,_,_,_,_,_⟩) ?_ 32 (.tmp 3) ?_ (w.heap.size+1) ?_ 32 (wcs b) (0,0) _ ?_ underlying32 ?_ (wc_info _) ?_);(rfl);(rfl);(rfl);(exact R1.out);(rfl))
 clear heq R1
 go_loopw [18] (fun i u=> ∃k:Nat,k≤256∧i= .int .i64 k∧Hid (DivAt w u w.heap.size a b (topN a k/b) (topN a k % b))) (fun i _=>256- (intOf i).toNat)
 case atStart=>
  refine⟨0,by omega,rfl,?_⟩
  show DivAt _ _ _ _ _ _ _
  rw[top_zero a HA.out,Nat.zero_div,Nat.zero_mod]
  exact⟨((((((Row.new w 32 _).alloc _).alloc _).alloc _).alloc _).alloc _),(((((Row.newAt (by simp) 32 _).alloc _).alloc _).alloc _).alloc _),((((Row.newAt (by simp) 32 _).alloc _).alloc _).alloc _),(((Row.newAt (by simp) 32 _).alloc _).alloc _),((Row.newAt (by simp) 32 _).alloc _),(Row.newAt (by simp) 32 _),by simp,by go_grown⟩
 case round=>
  obtain⟨k,hk,rfl,K0⟩:=hrel
  by_cases hlt:k<256
  · have hk0:(0:Int)≤(k:Int):=by omega
    have hlti:(k:Int)<256:=by omega
    have HD:=hD (div_round a b k HB0.out HB.out _ _ rfl rfl hlt)
    have HLB:=hD (Nat.mod_lt (topN a k) HB0.out)
    have HQ:=hD (Nat.lt_of_le_of_lt (Nat.div_le_self (topN a k) b) (top_lt a k HA.out hk))
    generalize topN a k/b=q at *
    generalize topN a k % b=l at *
    go_wp2_with ((with_reducible refine wpList_load_row (o:=⟨some 21,_,_,_,_,_⟩) ?_ 32 (.tmp 8) ?_ (w.heap.size+1+1+1+1+1) ?_ 32 (wcs l) (0,0) _ K0.out.l underlying32 ?_ (wc_info _) ?_);(rfl);(rfl);(rfl);(rfl))
    refine(bit_top l wr).mono ?_
    rintro e w1 ⟨rfl,rfl⟩
    have K1:=hD (K0.out.alloc (.cells (wcs l) 32))
    clear K0
    generalize wr.alloc (.cells (wcs l) 32)=w1 at *
    generalize hlost:bitN l 255=c at *
    have HC:=hD hlost
    clear hlost
    go_wp2_with ((with_reducible refine wpList_load_row (o:=⟨some 24,_,_,_,_,_⟩) ?_ 32 (.tmp 8) ?_ (w.heap.size+1+1+1+1+1) ?_ 32 (wcs l) (0,0) _ K1.out.l underlying32 ?_ (wc_info _) ?_);(rfl);(rfl);(rfl);(rfl))
    refine(up_one l w1 (by have:=HLB.out;have:=HB.out;omega)).mono ?_
    rintro e w2 ⟨rfl,hbel⟩
    have K2:=hD (K1.out.below hbel)
    clear K1 hbel
    have hl1:Hid (2*l % Big<Big):=Nat.mod_lt _ Big_pos
    have hl2:Hid (2*l % Big % 2=0):=by show _=_;unfold Big;omega
    generalize hl':2*l % Big=l1 at *
    have HL1:=hD hl'
    clear hl'
    have K3:Hid (DivAt w (w2.setRow (w.heap.size+1+1+1+1+1) (wcs l1)) w.heap.size a b q l1):=K2.out.setL
    have KL:Hid (w2.heap[w.heap.size+1+1+1+1+1]?=some (.cells (wcs l) 32 (0,0))):=K2.out.l
    clear K2
    go_upto_region 9 with ((with_reducible refine wpList_store_row (o:=⟨none, .store 32 _ _,_,_,_,_⟩) ?_ 32 (.tmp 8) (.tmp 25) ?_ (w.heap.size+1+1+1+1+1) (wcs l1) ?_ ?_ 32 (wcs l) KL.out (wc_info l1) (by rw[wc_size,wc_size]) (wc_one l1) ?_);(rfl);(rfl);(rfl);(rfl))
    clear KL
    generalize w2.setRow (w.heap.size+1+1+1+1+1) (wcs l1)=w3 at *
    have ra:Row w3 w.heap.size 32 (wcs a):=K3.out.a
    have rl:Row w3 (w.heap.size+1+1+1+1+1) 32 (wcs l1):=K3.out.l
    have c0:w3.cell? ⟨w.heap.size,0,none⟩=some (.int .u64 (W a 0)):=(ra.cell 0).trans (wc_get a 0 (by decide))
    have c1:w3.cell? ⟨w.heap.size,1,none⟩=some (.int .u64 (W a 1)):=(ra.cell 1).trans (wc_get a 1 (by decide))
    have c2:w3.cell? ⟨w.heap.size,2,none⟩=some (.int .u64 (W a 2)):=(ra.cell 2).trans (wc_get a 2 (by decide))
    have c3:w3.cell? ⟨w.heap.size,3,none⟩=some (.int .u64 (W a 3)):=(ra.cell 3).trans (wc_get a 3 (by decide))
    have d0:w3.cell? ⟨w.heap.size+1+1+1+1+1,0,none⟩=some (.int .u64 (W l1 0)):=(rl.cell 0).trans (wc_get l1 0 (by decide))
    have f0:w3.frozen? ⟨w.heap.size+1+1+1+1+1,0,none⟩=false:=rl.frozen 0
    have s5:w.heap.size+1+1+1+1+1<w3.heap.size:=K3.out.lt
    have s4:w.heap.size+1+1+1+1<w3.heap.size:=by omega
    have s0:w.heap.size<w3.heap.size:=by omega
    have dw:IntKind.i64.wrap (255- (k:Int))=255- (k:Int):=by rw[IntWalk.i64_in _ (by omega)]
    clear ra rl
    rw[put_none]
    go_cut [] (fun wx=>Hid (DivAt w wx w.heap.size a b q (l1+bitN a (255- k))))
    case first=>
     go_region_law (first|(go_simp;go_at_call 218;refine(bit_at a k _ hlt).mono ?_;rintro e w' ⟨rfl,rfl⟩))
     all_goals (go_wp2_with fail;go_meet;exact((K3.out.bitL hl1.out hl2.out (bitN_lt _ _)).alloc _).drew)
    case rest=>
     have K4:=hcut
     clear hcut c0 c1 c2 c3 d0 f0 s5 s4 s0 dw K3
     have HDC:=hD (div_cases a b k l c l1 HLB.out HB.out HC.out HL1.out)
     clear HC HL1 hl1 hl2
     generalize bitN a (255- k)=e at *
     generalize hv:l1+e=v at *
     have HV:=hD hv
     clear hv
     have hv1:Hid (v<Big):=HDC.out.1
     have hq1:Hid (2*q<Big):=by
       show _<_
       have h:=HQ.out
       rw[Big_eq]
       have:2^ (k+1)≤2^256:=Nat.pow_le_pow_right (by omega) (by omega)
       rw[Nat.pow_succ]at this
       omega
     go_wp2_with ((with_reducible refine wpList_load_row (o:=⟨some 34,_,_,_,_,_⟩) ?_ 32 (.tmp 7) ?_ (w.heap.size+1+1+1+1) ?_ 32 (wcs q) (0,0) _ K4.out.q underlying32 ?_ (wc_info _) ?_);(rfl);(rfl);(rfl);(rfl))
     refine(up_one q wc (by have:=hq1.out;omega)).mono ?_
     rintro e' w5 ⟨rfl,hbel⟩
     rw[Nat.mod_eq_of_lt hq1.out]
     have K5:=hD (K4.out.below hbel)
     have K6:Hid (DivAt w (w5.setRow (w.heap.size+1+1+1+1) (wcs (2*q))) w.heap.size a b (2*q) v):=K5.out.setQ
     have KQ:Hid (w5.heap[w.heap.size+1+1+1+1]?=some (.cells (wcs q) 32 (0,0))):=K5.out.q
     clear hbel K5 K4
     go_wp2_with (first
       |((with_reducible refine wpList_store_row (o:=⟨none, .store 32 _ _,_,_,_,_⟩) ?_ 32 (.tmp 7) (.tmp 35) ?_ (w.heap.size+1+1+1+1) (wcs (2*q)) ?_ ?_ 32 (wcs q) KQ.out (wc_info _) (by rw[wc_size,wc_size]) (wc_one _) ?_);(rfl);(rfl);(rfl);(rfl))
       |((with_reducible refine wpList_load_row (o:=⟨some 37,_,_,_,_,_⟩) ?_ 32 (.tmp 8) ?_ (w.heap.size+1+1+1+1+1) ?_ 32 (wcs v) (0,0) _ K6.out.l underlying32 ?_ (wc_info _) ?_);(rfl);(rfl);(rfl);(rfl))
       |((with_reducible refine wpList_load_row (o:=⟨some 38,_,_,_,_,_⟩) ?_ 32 (.tmp 3) ?_ (w.heap.size+1) ?_ 32 (wcs b) (0,0) _ K6.out.b underlying32 ?_ (wc_info _) ?_);(rfl);(rfl);(rfl);(rfl)))
     clear KQ
     generalize w5.setRow (w.heap.size+1+1+1+1) (wcs (2*q))=w6 at *
     refine(sub_any v b w6 hv1.out HB.out).mono ?_
     rintro e' w7 ⟨rfl,hbel⟩
     have K7:=hD (K6.out.below hbel)
     clear hbel K6 HLB HQ HV
     rcases HDC.out.2 with ⟨hc,hle,hbv,hmod⟩|⟨hc,hle,hbv,hmod⟩|⟨hc,hle,hbv,hmod⟩
     · have hcb:((c:Int)==1)=true:=by rw[hc];rfl
       have hle':decide (b≤v)=false:=by simpa using hle
       have hnew:Hid (topN a (k+1) /b=2*q+1∧topN a (k+1) % b=(v+(Big- b)) % Big):=by
        show _∧_
        rw[hmod]
        exact HD.out.1 hbv
       rw[hcb,hle']
       clear hcb hle' hmod hbv hle hc HD HDC
       have hsz:=hD (wc_size ((v+(Big- b)) % Big))
       have hon:=hD (wc_one ((v+(Big- b)) % Big))
       have hin:=hD (wc_info ((v+(Big- b)) % Big))
       have K8:Hid (DivAt w ((w7.alloc (.cells (wcs ((v+(Big- b)) % Big)) 32)).setRow (w.heap.size+1+1+1+1+1) (wcs ((v+(Big- b)) % Big))) w.heap.size a b (2*q) ((v+(Big- b)) % Big)):=(K7.out.alloc _).setL
       have KL:Hid ((w7.alloc (.cells (wcs ((v+(Big- b)) % Big)) 32)).heap[w.heap.size+1+1+1+1+1]?=some (.cells (wcs v) 32 (0,0))):=(K7.out.alloc _).l
       clear K7
       generalize (v+(Big- b)) % Big=r at *
       go_upto_region 14 with (first
        |((with_reducible refine wpList_store_row (o:=⟨none, .store 32 (.tmp 11) _,_,_,_,_⟩) ?_ 32 (.tmp 11) (.tmp 40) ?_ w7.heap.size (wcs r) ?_ ?_ 32 _ (heap_alloc_last w7 _) hin.out ?_ hon.out ?_);(rfl);(rfl);(rfl);(rfl);(rw[hsz.out];rfl);rw[World.setRow_alloc_new])
        |((with_reducible refine wpList_load_row (o:=⟨some 46,_,_,_,_,_⟩) ?_ 32 (.tmp 11) ?_ w7.heap.size ?_ 32 (wcs r) (0,0) _ (heap_alloc_last w7 _) underlying32 ?_ (wc_info _) ?_);(rfl);(rfl);(rfl);(rfl))
        |((with_reducible refine wpList_store_row (o:=⟨none, .store 32 (.tmp 8) _,_,_,_,_⟩) ?_ 32 (.tmp 8) (.tmp 46) ?_ (w.heap.size+1+1+1+1+1) (wcs r) ?_ ?_ 32 (wcs v) KL.out hin.out (by rw[wc_size,wc_size]) hon.out ?_);(rfl);(rfl);(rfl);(rfl)))
       clear KL hsz hon hin
       generalize (w7.alloc (.cells (wcs r) 32)).setRow (w.heap.size+1+1+1+1+1) (wcs r)=w8 at *
       try rw[put_none]
       have rq:Row w8 (w.heap.size+1+1+1+1) 32 (wcs (2*q)):=K8.out.q
       have d0:w8.cell? ⟨w.heap.size+1+1+1+1,0,none⟩=some (.int .u64 (W (2*q) 0)):=(rq.cell 0).trans (wc_get (2*q) 0 (by decide))
       have f0:w8.frozen? ⟨w.heap.size+1+1+1+1,0,none⟩=false:=rq.frozen 0
       clear rq
       have K9:=hD (K8.out.bitQ (c:=1) hq1.out (by omega) (by omega))
       clear K8
       go_wp2
       go_roundw
       case rel=>
        refine⟨k+1,by omega,by go_num,?_⟩
        show DivAt _ _ _ _ _ _ _
        rw[hnew.out.1,hnew.out.2]
        exact K9.out
       case measure=>simp[intOf];omega
     · have hcb:((c:Int)==1)=false:=by rw[hc];rfl
       have hle':decide (b≤v)=true:=by simpa using hle
       have hnew:Hid (topN a (k+1) /b=2*q+1∧topN a (k+1) % b=(v+(Big- b)) % Big):=by
        show _∧_
        rw[hmod]
        exact HD.out.1 hbv
       rw[hcb,hle']
       clear hcb hle' hmod hbv hle hc HD HDC
       have hsz:=hD (wc_size ((v+(Big- b)) % Big))
       have hon:=hD (wc_one ((v+(Big- b)) % Big))
       have hin:=hD (wc_info ((v+(Big- b)) % Big))
       have K8:Hid (DivAt w ((w7.alloc (.cells (wcs ((v+(Big- b)) % Big)) 32)).setRow (w.heap.size+1+1+1+1+1) (wcs ((v+(Big- b)) % Big))) w.heap.size a b (2*q) ((v+(Big- b)) % Big)):=(K7.out.alloc _).setL
       have KL:Hid ((w7.alloc (.cells (wcs ((v+(Big- b)) % Big)) 32)).heap[w.heap.size+1+1+1+1+1]?=some (.cells (wcs v) 32 (0,0))):=(K7.out.alloc _).l
       clear K7
       generalize (v+(Big- b)) % Big=r at *
       go_upto_region 14 with (first
        |((with_reducible refine wpList_store_row (o:=⟨none, .store 32 (.tmp 11) _,_,_,_,_⟩) ?_ 32 (.tmp 11) (.tmp 40) ?_ w7.heap.size (wcs r) ?_ ?_ 32 _ (heap_alloc_last w7 _) hin.out ?_ hon.out ?_);(rfl);(rfl);(rfl);(rfl);(rw[hsz.out];rfl);rw[World.setRow_alloc_new])
        |((with_reducible refine wpList_load_row (o:=⟨some 46,_,_,_,_,_⟩) ?_ 32 (.tmp 11) ?_ w7.heap.size ?_ 32 (wcs r) (0,0) _ (heap_alloc_last w7 _) underlying32 ?_ (wc_info _) ?_);(rfl);(rfl);(rfl);(rfl))
        |((with_reducible refine wpList_store_row (o:=⟨none, .store 32 (.tmp 8) _,_,_,_,_⟩) ?_ 32 (.tmp 8) (.tmp 46) ?_ (w.heap.size+1+1+1+1+1) (wcs r) ?_ ?_ 32 (wcs v) KL.out hin.out (by rw[wc_size,wc_size]) hon.out ?_);(rfl);(rfl);(rfl);(rfl)))
       clear KL hsz hon hin
       generalize (w7.alloc (.cells (wcs r) 32)).setRow (w.heap.size+1+1+1+1+1) (wcs r)=w8 at *
       try rw[put_none]
       have rq:Row w8 (w.heap.size+1+1+1+1) 32 (wcs (2*q)):=K8.out.q
       have d0:w8.cell? ⟨w.heap.size+1+1+1+1,0,none⟩=some (.int .u64 (W (2*q) 0)):=(rq.cell 0).trans (wc_get (2*q) 0 (by decide))
       have f0:w8.frozen? ⟨w.heap.size+1+1+1+1,0,none⟩=false:=rq.frozen 0
       clear rq
       have K9:=hD (K8.out.bitQ (c:=1) hq1.out (by omega) (by omega))
       clear K8
       go_wp2
       go_roundw
       case rel=>
        refine⟨k+1,by omega,by go_num,?_⟩
        show DivAt _ _ _ _ _ _ _
        rw[hnew.out.1,hnew.out.2]
        exact K9.out
       case measure=>simp[intOf];omega
     · have hcb:((c:Int)==1)=false:=by rw[hc];rfl
       have hle':decide (b≤v)=false:=by simpa using hle
       have hnew:Hid (topN a (k+1) /b=2*q∧topN a (k+1) % b=v):=by
        show _∧_
        rw[hmod]
        exact HD.out.2 hbv
       rw[hcb,hle']
       clear hcb hle' hmod hbv hle hc HD HDC
       have hsz:=hD (wc_size ((v+(Big- b)) % Big))
       have hon:=hD (wc_one ((v+(Big- b)) % Big))
       have hin:=hD (wc_info ((v+(Big- b)) % Big))
       have K8:=hD (K7.out.alloc (.cells (wcs ((v+(Big- b)) % Big)) 32))
       clear K7
       generalize (v+(Big- b)) % Big=r at *
       go_wp2_with ((with_reducible refine wpList_store_row (o:=⟨none, .store 32 (.tmp 11) _,_,_,_,_⟩) ?_ 32 (.tmp 11) (.tmp 40) ?_ w7.heap.size (wcs r) ?_ ?_ 32 _ (heap_alloc_last w7 _) hin.out ?_ hon.out ?_);(rfl);(rfl);(rfl);(rfl);(rw[hsz.out];rfl);rw[World.setRow_alloc_new])
       go_roundw
       case rel=>
        refine⟨k+1,by omega,by go_num,?_⟩
        show DivAt _ _ _ _ _ _ _
        rw[hnew.out.1,hnew.out.2]
        exact K8.out
       case measure=>simp[intOf];omega
  · obtain rfl:k=256:=by omega
    have K:Hid (DivAt w wr w.heap.size a b (a/b) (a % b)):=by
     show DivAt _ _ _ _ _ _ _
     have h:=K0.out
     rw[top_all]at h
     exact h
    clear K0
    have hbel:=K.out.bel
    have eq1:=hD (wc_cells (a/b))
    have eq2:=hD (wc_cells (a % b))
    have rr:Row wr (w.heap.size+1+1) 32 (wcs 0):=K.out.r
    have rs:Row wr (w.heap.size+1+1+1) 32 (wcs 0):=K.out.s
    have rq:Row wr (w.heap.size+1+1+1+1) 32 (wcs (a/b)):=K.out.q
    have rl:Row wr (w.heap.size+1+1+1+1+1) 32 (wcs (a % b)):=K.out.l
    have q0:=(rq.cell 0).trans (wc_get (a/b) 0 (by decide))
    have l0:=(rl.cell 0).trans (wc_get (a % b) 0 (by decide))
    have r0:wr.cell? ⟨w.heap.size+1+1,0,none⟩=some (.int .u64 0):=(rr.cell 0).trans rfl
    have s0:wr.cell? ⟨w.heap.size+1+1+1,0,none⟩=some (.int .u64 0):=(rs.cell 0).trans rfl
    have fr0:=rr.frozen 0
    have fs0:=rs.frozen 0
    have q1:=(rq.cell 1).trans (wc_get (a/b) 1 (by decide))
    have l1:=(rl.cell 1).trans (wc_get (a % b) 1 (by decide))
    have r1:wr.cell? ⟨w.heap.size+1+1,1,none⟩=some (.int .u64 0):=(rr.cell 1).trans rfl
    have s1:wr.cell? ⟨w.heap.size+1+1+1,1,none⟩=some (.int .u64 0):=(rs.cell 1).trans rfl
    have fr1:=rr.frozen 1
    have fs1:=rs.frozen 1
    have q2:=(rq.cell 2).trans (wc_get (a/b) 2 (by decide))
    have l2:=(rl.cell 2).trans (wc_get (a % b) 2 (by decide))
    have r2:wr.cell? ⟨w.heap.size+1+1,2,none⟩=some (.int .u64 0):=(rr.cell 2).trans rfl
    have s2:wr.cell? ⟨w.heap.size+1+1+1,2,none⟩=some (.int .u64 0):=(rs.cell 2).trans rfl
    have fr2:=rr.frozen 2
    have fs2:=rs.frozen 2
    have q3:=(rq.cell 3).trans (wc_get (a/b) 3 (by decide))
    have l3:=(rl.cell 3).trans (wc_get (a % b) 3 (by decide))
    have r3:wr.cell? ⟨w.heap.size+1+1,3,none⟩=some (.int .u64 0):=(rr.cell 3).trans rfl
    have s3:wr.cell? ⟨w.heap.size+1+1+1,3,none⟩=some (.int .u64 0):=(rs.cell 3).trans rfl
    have fr3:=rr.frozen 3
    have fs3:=rs.frozen 3
    have RR:=hD rr
    have RS:=hD rs
    clear rr rs rq rl K
    generalize W (a/b) 0=x0 at *
    generalize W (a/b) 1=x1 at *
    generalize W (a/b) 2=x2 at *
    generalize W (a/b) 3=x3 at *
    generalize W (a % b) 0=y0 at *
    generalize W (a % b) 1=y1 at *
    generalize W (a % b) 2=y2 at *
    generalize W (a % b) 3=y3 at *
    go_wp2_with fail
    go_region
    have F1:=hD ((((((((RR.out.put 0 (.int .u64 x0)).put 1 (.int .u64 x1)).put 2 (.int .u64 x2)).put 3 (.int .u64 x3)).farAt (g':=w.heap.size+1+1+1) (i:=0) (by omega) (.int .u64 y0)).farAt (g':=w.heap.size+1+1+1) (i:=1) (by omega) (.int .u64 y1)).farAt (g':=w.heap.size+1+1+1) (i:=2) (by omega) (.int .u64 y2)).farAt (g':=w.heap.size+1+1+1) (i:=3) (by omega) (.int .u64 y3)).drew
    have F2:=hD ((((((((RS.out.farAt (g':=w.heap.size+1+1) (i:=0) (by omega) (.int .u64 x0)).farAt (g':=w.heap.size+1+1) (i:=1) (by omega) (.int .u64 x1)).farAt (g':=w.heap.size+1+1) (i:=2) (by omega) (.int .u64 x2)).farAt (g':=w.heap.size+1+1) (i:=3) (by omega) (.int .u64 x3)).put 0 (.int .u64 y0)).put 1 (.int .u64 y1)).put 2 (.int .u64 y2)).put 3 (.int .u64 y3)).drew
    clear q0 q1 q2 q3 l0 l1 l2 l3 r0 r1 r2 r3 s0 s1 s2 s3 fr0 fr1 fr2 fr3 fs0 fs1 fs2 fs3
    go_wp2_with ((with_reducible refine bodyPost_ret (v:= .tuple #[.agg #[.int .u64 x0, .int .u64 x1, .int .u64 x2, .int .u64 x3], .agg #[.int .u64 y0, .int .u64 y1, .int .u64 y2, .int .u64 y3], .bool true]) ?_ ?_ ?_);(exact results_rows_slot (p:=4) (p':=5) (q:=6) (ty:=32) results195 _ _ (w.heap.size+1+1) (w.heap.size+1+1+1) 32 #[.int .u64 x0, .int .u64 x1, .int .u64 x2, .int .u64 x3] #[.int .u64 y0, .int .u64 y1, .int .u64 y2, .int .u64 y3] (0,0) _ rfl rfl _ rfl F1.out F2.out underlying32 rfl (infoW _ rfl) (infoW _ rfl));(rfl))
    refine⟨by rw[eq1.out,eq2.out],?_⟩
    refine Below.drew ?_
    repeat (refine Below.setCell ?_ (by simp;omega) _)
    exact hbel
def wordAcc(f:Nat→Nat)(p:Nat):Nat→Nat
  |0=>0
  |k+1=>if 3- k/8=p then 256*wordAcc f p k+f k else wordAcc f p k
theorem wordAcc_before(f:Nat→Nat)(p k:Nat)(hp:p<4)(hk:k≤8*(3- p)):wordAcc f p k=0:=by
 induction k with
 |zero=>rfl
 |succ k ih=>rw[wordAcc,if_neg (by omega),ih (by omega)]
theorem wordAcc_lt(f:Nat→Nat)(hf: ∀i,f i<256)(p j:Nat)(hp:p<4)(hj:j≤8):wordAcc f p (8*(3- p)+j)<256^j:=by
 induction j with
 |zero=>rw[Nat.add_zero,wordAcc_before f p _ hp (by omega)];decide
 |succ j ih=>
  have:=ih (by omega)
  have:=hf (8*(3- p)+j)
  rw[←Nat.add_assoc,wordAcc,if_pos (by omega),Nat.pow_succ]
  omega
theorem wordAcc_after(f:Nat→Nat)(p j:Nat)(hp:p<4)(hj:8*(3- p)+8+j≤32):wordAcc f p (8*(3- p)+8+j)=wordAcc f p (8*(3- p)+8):=by
 induction j with
 |zero=>rfl
 |succ j ih=>rw[←Nat.add_assoc,wordAcc,if_neg (by omega),ih (by omega)]
theorem wordAcc_word(f:Nat→Nat)(hf: ∀i,f i<256)(p k:Nat)(hp:p<4)(hk:k≤32):wordAcc f p k<18446744073709551616:=by
 by_cases h1:k≤8*(3- p)
 · rw[wordAcc_before f p k hp h1];decide
 · by_cases h2:k≤8*(3- p)+8
   · have h:=wordAcc_lt f hf p (k- 8*(3- p)) hp (by omega)
     rw[show 8*(3- p)+(k- 8*(3- p))=k by omega]at h
     have:256^ (k- 8*(3- p))≤256^8:=Nat.pow_le_pow_right (by omega) (by omega)
     exact Nat.lt_of_lt_of_le h this
   · have h:=wordAcc_after f p (k- (8*(3- p)+8)) hp (by omega)
     rw[show 8*(3- p)+8+(k- (8*(3- p)+8))=k by omega]at h
     rw[h]
     exact wordAcc_lt f hf p 8 hp (by omega)
theorem wordAcc_small(f:Nat→Nat)(hf: ∀i,f i<256)(k:Nat)(hk:k<32):wordAcc f (3- k/8) k<72057594037927936:=by
 have h:=wordAcc_lt f hf (3- k/8) (k % 8) (by omega) (by omega)
 rw[show 8*(3- (3- k/8))+k % 8=k by omega]at h
 have:256^ (k % 8)≤256^7:=Nat.pow_le_pow_right (by omega) (by omega)
 exact Nat.lt_of_lt_of_le h this
def accL(f:Nat→Nat)(k:Nat):List Int:=[(wordAcc f 0 k:Int),(wordAcc f 1 k:Int),(wordAcc f 2 k:Int),(wordAcc f 3 k:Int)]
def numOf(f:Nat→Nat):Nat:=mk4 (wordAcc f 0 32) (wordAcc f 1 32) (wordAcc f 2 32) (wordAcc f 3 32)
theorem numOf_lt(f:Nat→Nat)(hf: ∀i,f i<256):numOf f<Big:=mk4_lt _ _ _ _ (wordAcc_word f hf 0 32 (by omega) (by omega)) (wordAcc_word f hf 1 32 (by omega) (by omega)) (wordAcc_word f hf 2 32 (by omega) (by omega)) (wordAcc_word f hf 3 32 (by omega) (by omega))
theorem accL_all(f:Nat→Nat)(hf: ∀i,f i<256):arrW 4 (accL f 32)=wcs (numOf f):=by
 unfold wcs numOf
 rw[wl_mk4 _ _ _ _ (wordAcc_word f hf 0 32 (by omega) (by omega)) (wordAcc_word f hf 1 32 (by omega) (by omega)) (wordAcc_word f hf 2 32 (by omega) (by omega)) (wordAcc_word f hf 3 32 (by omega) (by omega))]
 rfl
theorem accL_get(f:Nat→Nat)(k p:Nat)(hp:p<4):(arrW 4 (accL f k))[p]?=some (.int .u64 (wordAcc f p k)):=by
 rcases p with _|_|_|_|p
 all_goals first|rfl|omega
theorem accL_put(f:Nat→Nat)(k:Nat)(hk:k<32):(arrW 4 (accL f k)).setIfInBounds (3- k/8) (.int .u64 ((256*wordAcc f (3- k/8) k+f k:Nat):Int))=arrW 4 (accL f (k+1)):=by
 have key: ∀p,p<4→wordAcc f p (k+1)=if 3- k/8=p then 256*wordAcc f p k+f k else wordAcc f p k:=fun p _=>rfl
 have hq:k/8=0∨k/8=1∨k/8=2∨k/8=3:=by omega
 unfold accL
 rw[key 0 (by omega),key 1 (by omega),key 2 (by omega),key 3 (by omega)]
 rcases hq with h|h|h|h<;>rw[h]<;>rfl
theorem or_byte(x b:Nat)(hx:x<72057594037927936)(hb:b<256):bits .or .u64 ((x:Int)*256) (b:Int)=((256*x+b:Nat):Int):=by
 have c1:((x:Int)*256)=((x*256:Nat):Int):=by simp
 rw[c1,bits_or_u64_nat (x*256) b (by omega) (by omega)]
 congr 1
 have h:=Nat.shiftLeft_add_eq_or_of_lt (a:=x) (b:=b) (i:=8) (by omega)
 rw[Nat.shiftLeft_eq,show (2:Nat)^8=256 from rfl]at h
 rw[←h]
 omega
theorem of32_any(f:Nat→Nat)(hf: ∀i,f i<256)(w:World):
  Rz 120 #[.agg (idF (fun i=>(f i:Int)))] w (.agg (wcs (numOf f))):=by
 unfold Rz
 have HF:=hD hf
 clear hf
 go_enter func120,ntmps120
 go_wp2_with fail
 go_loopw [6] (fun i u=> ∃k:Nat,k≤32∧i= .int .i64 k∧Below w.heap.size w u∧Hid (Row u w.heap.size 26 (idF (fun i=>(f i:Int)))∧Row u (w.heap.size+1) 32 (arrW 4 [])∧Row u (w.heap.size+1+1) 32 (arrW 4 (accL f k)))) (fun i _=>32- (intOf i).toNat)
 case atStart=>exact⟨0,by omega,rfl,by go_grown,((Row.new w 26 _).alloc _).alloc _,(Row.newAt (by simp) 32 _).alloc _,Row.newAt (by simp) 32 _⟩
 case round=>
  obtain⟨k,hk,rfl,hbl,hrows⟩:=hrel
  obtain⟨r0,r1,r2⟩:=hrows.out
  by_cases hlt:k<32
  · have hk0:(0:Int)≤(k:Int):=by omega
    have hk4:(k:Int)<32:=by omega
    have e0:wr.cell? ⟨w.heap.size,k,none⟩=some (.int .u8 (f k:Int)):=(r0.cell k).trans (idF_get _ k hlt)
    have e2:wr.cell? ⟨w.heap.size+1+1,3- k/8,none⟩=some (.int .u64 (wordAcc f (3- k/8) k)):=(r2.cell _).trans (accL_get f k _ (by omega))
    have f2:wr.frozen? ⟨w.heap.size+1+1,3- k/8,none⟩=false:=r2.frozen _
    have R0:=hD r0
    have R1:=hD r1
    have R2:=hD r2
    have hput:=hD (accL_put f k hlt)
    have hor:=hD (or_byte _ _ (wordAcc_small f HF.out k hlt) (HF.out k))
    have hsm:=wordAcc_small f HF.out k hlt
    have hfk:=HF.out k
    clear r0 r1 r2 hrows
    generalize wordAcc f (3- k/8) k=x at *
    generalize f k=b at *
    have q0:0≤3- (k:Int) /8:=by omega
    have q1:3- (k:Int) /8<4:=by omega
    have q2:(3- (k:Int) /8).toNat=3- k/8:=by omega
    have hx0:(0:Int)≤(x:Int):=by omega
    have hx1:(x:Int)<72057594037927936:=by omega
    have hb0:(0:Int)≤(b:Int):=by omega
    have hb1:(b:Int)<256:=by omega
    have wx:IntKind.u64.wrap ((x:Int)*256)=(x:Int)*256:=by rw[IntKind.wrap_u64];omega
    have wb:IntKind.u64.wrap (b:Int)=(b:Int):=by rw[IntKind.wrap_u64];omega
    go_wp2_with (go_at_call 170;refine(ofbyte_any _ _ (by omega) (by omega)).mono ?_;rintro e w' ⟨rfl,rfl⟩)
    go_region
    clear wx wb q2
    go_wp2
    go_roundw
    case rel=>
     refine⟨k+1,by omega,by go_num,(hbl.setCell (by simp;omega) _).drew,R0.out.farAt (by omega) _,R1.out.farAt (by omega) _,?_⟩
     rw[←hput.out,←hor.out]
     exact R2.out.put (3- k/8) _
    case measure=>simp[intOf];omega
  · obtain rfl:k=32:=by omega
    rw[accL_all f HF.out]at r2
    have hsz:=hD (wc_size (numOf f))
    have hz0:=hD (arrW_size 4 [] (by simp))
    have ho:=hD (wc_one (numOf f))
    have R1:Hid (wr.heap[w.heap.size+1]?=some (.cells (arrW 4 []) 32 (0,0))):=r1
    have R2:Hid (wr.heap[w.heap.size+1+1]?=some (.cells (wcs (numOf f)) 32 (0,0))):=r2
    clear r0 r1 r2 hrows
    generalize hE:wcs (numOf f)=cs at *
    have HE:=hD hE
    clear hE
    generalize arrW 4 []=zs at *
    go_wp2_with (first
     |((with_reducible refine wpList_load_row (o:=⟨some 23,_,_,_,_,_⟩) ?_ 32 (.tmp 3) ?_ (w.heap.size+1+1) ?_ 32 cs (0,0) _ R2.out underlying32 ?_ (infoW cs hsz.out) ?_);(rfl);(rfl);(rfl);(rfl))
     |((with_reducible refine wpList_store_row (o:=⟨none, .store 32 _ _,_,_,_,_⟩) ?_ 32 (.tmp 2) (.tmp 23) ?_ (w.heap.size+1) cs ?_ ?_ 32 zs R1.out (infoW cs hsz.out) (by rw[hz0.out,hsz.out]) ho.out ?_);(rfl);(rfl);(rfl);(rfl))
     |((with_reducible refine bodyPost_ret (v:= .agg cs) ?_ ?_ ?_);(exact results_cell_row (p:=2) (ty:=32) results120 _ _ (w.heap.size+1) 32 cs (0,0) _ rfl (setRow_heap _ _ zs cs 32 (0,0) R1.out) underlying32 rfl (infoW cs hsz.out));(rfl)))
    exact⟨by rw[HE.out],below_setRow hbl (by omega) _⟩
def aUp(a k:Nat):Nat:=a*2^k % Big
theorem aUp_zero(a:Nat)(h:a<Big):aUp a 0=a:=by unfold aUp;rw[Nat.pow_zero,Nat.mul_one,Nat.mod_eq_of_lt h]
end Go.Proofs.YtojmeodoenkapaaGreatDoor
