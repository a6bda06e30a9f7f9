/- Part of a proof. -/
import Derived.Test.YtojmeodoenkapaaGreatDoorYa
import Derived.Test.YtojmeodoenkapaaGreatDoorProg
import Derived.Deep.MidRow
import Derived.Lib.Hide
import Derived.Great.BuildSlice
import Derived.Maps.AppendAt
import Derived.Laws.MakeOwn
import Derived.Laws.Cells
import Derived.WalkKit
import Derived.ProofKit
import Derived.OpenShut
import Derived.Deep.DeepHandedRow
import Derived.Deep.Slices
import Derived.Handy
import Derived.Laws.BytesArg
import Derived.ChangeKeysEq
import Derived.Lib.SlBytesConst
import Derived.Laws.CopyOwn
import Derived.Deep.WholeRow
import Derived.Deep.Cut
import Derived.Deep.QuietTactic
import Derived.BigQuiet
import Derived.StillTailTactics
import Derived.Laws.BitsAllLaws
import Derived.Deep.RegionHeld3
import Derived.Deep.RegionLaw
import Derived.Deep.RegionHeld
import Derived.Laws.Bits64b
import Derived.Laws.Externs
import Derived.Deep.DrawnRows
import Derived.RegionTactic
import Derived.Great.FillDense
import Derived.Laws.StructEq
open Go.Proofs.Tryz
namespace Go.Proofs.YtojmeodoenkapaaGreatDoor
set_option maxRecDepth 20000
set_option maxHeartbeats 8000000
set_option linter.unusedVariables false
set_option linter.unusedSimpArgs false
open Go.RowKit
abbrev oc(cs:Array Value)(t:TypeId):Obj:=Obj.cells cs t (0,0)
theorem nl{w0 u:World}{M:Boxes}(h:EnvX w0 u M):EnvX w0 u []:=EnvX.sub h (fun _ h=>by cases h)
section
variable {α:Type}{a b:α}{s t:List α}{p:α→Prop}
theorem mH:a∈a::s:=List.Mem.head _
theorem mT(h:a∈s):a∈b::s:=List.Mem.tail _ h
theorem mR(h:a∈t):a∈s++t:=List.mem_append_right _ h
theorem mL(h:a∈s):a∈s++t:=List.mem_append_left _ h
theorem mS:a∈[b] ↔a=b:=List.mem_singleton
theorem gE{i:Nat}(h:i<s.length):s[i]?=some s[i]:=List.getElem?_eq_getElem h
theorem gD{i:Nat}:s.getD i a=s[i]?.getD a:=List.getD_eq_getElem?_getD
theorem gN{i:Nat}(h:s.length≤i):s[i]?=none:=List.getElem?_eq_none h
theorem lA:(s++t).length=s.length+t.length:=List.length_append
theorem aA{r:List α}:s++t++r=s++(t++r):=List.append_assoc ..
theorem tL{i:Nat}(h:s.length≤i):s.take i=s:=List.take_of_length_le h
theorem mA(h:p a∧ ∀x∈s,p x): ∀x∈a::s,p x:=List.forall_mem_cons.2 h
end
section
variable {P:Program}{l:List Oper}{C:World→Prop}{Q:Act→Prop}{a a':Act}{i:Nat}{rest:List Nat}{dst:Option Tmp}{op:Op}{ty:TypeId}{pos:String}{after:Array Edge}{gd:Option (Nat × Bool)}{u0:World}{v:Value}
theorem oneC(h: ∃u,C u): ∀x y:Value,(∀v,C v→x=y) ↔x=y:=fun _ _=>⟨fun k=>k _ h.choose_spec,fun k _ _=>k⟩
theorem qv(ho:l[i]?=some ⟨dst,op,ty,pos,after,gd⟩)(hv: ∀u,C u→(execOp a.eval ⟨dst,op,ty,pos,after,gd⟩).run P u= .ok (.value v) u)(h0: ∃u,C u)(k:wpG P l C Q rest a')
  (hw:Region.wanted ⟨dst,op,ty,pos,after,gd⟩ (yielded l.toArray a.tmps)=true:=by rfl)
  (hq:(∀x y:Value,(∀v,C v→x=y) ↔x=y)→ ∀K:Act→Prop,(∀b,b=a'→K b)→Oper.quiet P ⟨dst, .move (.const v),ty,pos,after,gd⟩ a C K:=by intro hone K hK;go_big_quiet_op;go_big_quiet_on;rfl):wpG P l C Q (i::rest) a:=
 wpG_val ho hw hv (fun K hK=>hq (oneC h0) K (fun b e=>by subst e;exact hK _ k)) h0.choose_spec
theorem qo(ho:l[i]?=some ⟨dst,op,ty,pos,after,gd⟩)(h0: ∃u,C u)(k:wpG P l C Q rest a')
  (hw:Region.wanted ⟨dst,op,ty,pos,after,gd⟩ (yielded l.toArray a.tmps)=true:=by rfl) (hop:valueB op=true:=by rfl)
  (hq:(∀x y:Value,(∀v,C v→x=y) ↔x=y)→ ∀K:Act→Prop,(∀b,b=a'→K b)→Oper.quiet P ⟨dst,op,ty,pos,after,gd⟩ a C K:=by intro hone K hK;go_big_quiet_op;go_big_quiet_on;rfl):wpG P l C Q (i::rest) a:=
 wpG_op ho hw hop (fun K hK=>hq (oneC h0) K (fun b e=>by subst e;exact hK _ k))
theorem qs(ho:l[i]?=some ⟨dst,op,ty,pos,after,gd⟩)(h0: ∃u,C u)(k:wpG P l C Q rest a')
  (hw:Region.wanted ⟨dst,op,ty,pos,after,gd⟩ (yielded l.toArray a.tmps)=false:=by rfl)
  (hq:(∀x y:Value,(∀v,C v→x=y) ↔x=y)→ ∀K:Act→Prop,(∀b,b=a'→K b)→Oper.quiet P ⟨dst, .move (.const undef),ty,pos,after,gd⟩ a C K:=by intro hone K hK;go_big_quiet_op;go_big_quiet_on;rfl):wpG P l C Q (i::rest) a:=
 wpG_skip ho hw (fun K hK=>hq (oneC h0) K (fun b e=>by subst e;exact hK _ k)) h0.choose_spec
theorem qc{f:FuncId}{xs:Array Operand}{ats:Array TypeId}{fn:Func}{c:Code}{args:Array Value}(ho:l[i]?=some ⟨dst, .call {callee:= .value (.func f),args:=xs,argTypes:=ats},ty,pos,after,gd⟩)(hfn:P.funcs[f]?=some fn)
  (hc: ∀u,C u→Calls P f args u (fun e w''=>e= .returned v∧Below u.heap.size u w'')) (h0: ∃u,C u) (k:wpG P l C Q rest a')
  (hw:Region.wanted ⟨dst, .call {callee:= .value (.func f),args:=xs,argTypes:=ats},ty,pos,after,gd⟩ (yielded l.toArray a.tmps)=true:=by rfl)
  (hargs:xs.toList.map a.eval=args.toList:=by rfl) (hname:(fn.name== "runtime.NumGoroutine")=false:=by rfl) (hb:fn.body=some c:=by rfl)
  (hq:(∀x y:Value,(∀v,C v→x=y) ↔x=y)→ ∀K:Act→Prop,(∀b,b=a'→K b)→Oper.quiet P ⟨dst, .move (.const v),ty,pos,after,gd⟩ a C K:=by intro hone K hK;go_big_quiet_op;go_big_quiet_on;rfl):wpG P l C Q (i::rest) a:=
 wpG_call ho hw hargs hfn hname hb hc (fun K hK=>hq (oneC h0) K (fun b e=>by subst e;exact hK _ k)) h0.choose_spec
end
section
variable {P:Program}{Γ:HP}{l:List Oper}{ops:Array Oper}{C:World→Prop}{Q:Act→Prop}{R0:Act→Boxes→Prop}{K:Act→Boxes→Prop}{a a':Act}{i F:Nat}{rest:List Nat}{dst:Option Tmp}{op:Op}{ty:TypeId}{pos:String}{after:Array Edge}{gd:Option (Nat × Bool)}{w0 u0:World}{M L:Boxes}{md:Region.Mode}{listed:Array Bool}
class FldT (P:Program) (T:TypeId) (tab:outParam (List (Nat × Nat))):Prop where
  run: ∀{a:Act}{dst:Option Tmp}{x:Operand}{ty:TypeId}{pos:String}{after:Array Edge}{gd:Option (Nat × Bool)}{k off:Nat}{ad:Addr}(_:tab.lookup k=some off)(u:World)(_:a.eval x= .pointer (some ad)),
    (execOp a.eval ⟨dst, .fieldAddr T x k,ty,pos,after,gd⟩).run P u= .ok (.value (.pointer (some (ad.add off)))) u
theorem qf{T:TypeId}{x:Operand}{k off g o o2:Nat}{tab:List (Nat × Nat)}(ho:l[i]?=some ⟨dst, .fieldAddr T x k,ty,pos,after,gd⟩)(h0: ∃u,C u)(kk:wpG P l C Q rest a')(I:FldT P T tab:=by infer_instance)
  (hx:a.eval x= .pointer (some ⟨g,o,none⟩):=by rfl) (hk:tab.lookup k=some off:=by rfl) (h2:o+off=o2:=by first|exact Nat.zero_add _|rfl)
  (hw:Region.wanted ⟨dst, .fieldAddr T x k,ty,pos,after,gd⟩ (yielded l.toArray a.tmps)=true:=by rfl)
  (hq:(∀x y:Value,(∀v,C v→x=y) ↔x=y)→ ∀K:Act→Prop,(∀b,b=a'→K b)→Oper.quiet P ⟨dst, .move (.const (.pointer (some ⟨g,o2,none⟩))),ty,pos,after,gd⟩ a C K:=by intro hone K hK;go_big_quiet_op;go_big_quiet_on;rfl):wpG P l C Q (i::rest) a:=
 qv ho (fun u _=>by have h:=I.run (dst:=dst) (ty:=ty) (pos:=pos) (after:=after) (gd:=gd) hk u hx;rw[Addr.add_mid,h2]at h;exact h) h0 kk hw hq
class Cell (P:Program) (cs:Array Value) (T o:Nat) (v:outParam Value) (p:outParam Prop):Prop where
  run: ∀{w0 u:World}{M:Boxes}{g:Nat}{ty:TypeId},EnvC w0 M u→(g,Obj.cells cs ty (0,0))∈M→p→(loadVar T ⟨g,o,none⟩).run P u= .ok v u
theorem ql{T:TypeId}{x:Operand}{g o:Nat}{cs:Array Value}{t:TypeId}{v:Value}{p:Prop}(ho:l[i]?=some ⟨dst, .load T x,ty,pos,after,gd⟩)(hm:(g,Obj.cells cs t (0,0))∈M)(hp:p)(h0: ∃u,EnvC w0 M u)(kk:wpG P l (EnvC w0 M) Q rest a')
  (hx:a.eval x= .pointer (some ⟨g,o,none⟩):=by rfl) (I:Cell P cs T o v p:=by infer_instance)
  (hw:Region.wanted ⟨dst, .load T x,ty,pos,after,gd⟩ (yielded l.toArray a.tmps)=true:=by rfl)
  (hq:(∀x y:Value,(∀v,EnvC w0 M v→x=y) ↔x=y)→ ∀K:Act→Prop,(∀b,b=a'→K b)→Oper.quiet P ⟨dst, .move (.const v),ty,pos,after,gd⟩ a (EnvC w0 M) K:=by intro hone K hK;go_big_quiet_op;go_big_quiet_on;rfl):wpG P l (EnvC w0 M) Q (i::rest) a:=
 qv ho (fun u hu=>by unfold execOp;simp only[hx,Instr.loadAt,Instr.sureAddr,Sem.run_bind,Sem.run_pure,Result.andThen_ok,I.run hu hm hp]) h0 kk hw hq
theorem sh{ty':TypeId}{x y:Operand}{g:Nat}{cs old:Array Value}{t:TypeId}(ho:ops[i]?=some ⟨none, .store ty' x y,ty,pos,after,none⟩)(H:Hid (w0.heap.size≤g∧ ∀z∈L,z.1≠g))(hi:(P.info? ty').map (·.size)=some cs.size)(hold:old.size=cs.size)(h1:cs.all (·.oneCell')=true)
  (h:(∃u,EnvX w0 u ((g,Obj.cells cs t (0,0))::L))→K a ((g,Obj.cells cs t (0,0))::L)) (hx:a.eval x= .pointer (some ⟨g,0,none⟩):=by rfl) (hy:a.eval y= .agg cs:=by rfl):hOp (Γ:=HP.no) P ops w0 i K a ((g,Obj.cells old t (0,0))::L):=
 hOp_store ho g cs hx hy H.out.1 t old mH hi hold h1 _ (mA ⟨.inl rfl,fun y hy=> .inr ⟨mT hy,H.out.2 y hy⟩⟩) h
theorem so{ty':TypeId}{x y:Operand}{g:Nat}{cs old:Array Value}{t:TypeId}(ho:ops[i]?=some ⟨none, .store ty' x y,ty,pos,after,none⟩)(hg:w0.heap.size≤g)(hm:(g,Obj.cells old t (0,0))∈M)(hi:(P.info? ty').map (·.size)=some cs.size)(hold:old.size=cs.size)(h1:cs.all (·.oneCell')=true)
  (h:(∃u,EnvX w0 u [(g,Obj.cells cs t (0,0))])→K a [(g,Obj.cells cs t (0,0))]) (hx:a.eval x= .pointer (some ⟨g,0,none⟩):=by rfl) (hy:a.eval y= .agg cs:=by rfl):hOp (Γ:=HP.no) P ops w0 i K a M:=
 hOp_store ho g cs hx hy hg t old hm hi hold h1 _ (mA ⟨.inl rfl,fun _ h=>by cases h⟩) h
theorem qr{R:Value→Boxes→Prop}{f:FuncId}{xs:Array Operand}{ats:Array TypeId}{fn:Func}{c:Code}{args:Array Value}{a':Value→Act}(ho:ops[i]?=some ⟨dst, .call {callee:= .value (.func f),args:=xs,argTypes:=ats},ty,pos,after,none⟩)(hfn:P.funcs[f]?=some fn)
  (hc: ∀u,EnvX w0 u M→Calls P f args u (fun e w''=> ∃x N,e= .returned x∧R x N∧Below u.heap.size u w''∧ ∀y∈N,u.heap.size≤y.1∧w''.heap[y.1]?=some y.2))
  (h: ∀x N,R x N→freshN w0 N M→(∃u,EnvX w0 u (N++M))→K (a' x) (N++M))
  (hargs:xs.toList.map a.eval=args.toList:=by rfl) (hname:(fn.name== "runtime.NumGoroutine")=false:=by rfl) (hb:fn.body=some c:=by rfl)
  (hq: ∀(x:Value)(K:Act→Prop),(∀b,b=a' x→K b)→Oper.quiet P ⟨dst, .move (.const x),ty,pos,after,none⟩ a (fun _=>True) K:=by intro x K hK;go_big_quiet_op;go_big_quiet_on;rfl):hOp (Γ:=Γ) P ops w0 i K a M:=
 hOp_fresh R M ho rfl (fun _ h=>h) (fun u hu=>FAt_call hargs hfn hname hb u (hc u hu)) (fun x N hR hf hE K' hK=>hq x K' (fun b e=>by subst e;exact hK _ (h x N hR hf hE)))
theorem qn{z:Obj}{a':Nat→Act}(ho:ops[i]?=some ⟨dst,op,ty,pos,after,none⟩)(hz:NewAt P ⟨dst,op,ty,pos,after,none⟩ a z)
  (h: ∀g,Hid (w0.heap.size≤g∧ ∀x∈M,x.1≠g)→(∃u,EnvX w0 u ((g,z)::M))→K (a' g) ((g,z)::M))
  (hq: ∀(g:Nat)(K:Act→Prop),(∀b,b=a' g→K b)→Oper.quiet P ⟨dst, .move (.const (.pointer (some ⟨g,0,none⟩))),ty,pos,after,none⟩ a (fun _=>True) K:=by intro g K hK;go_big_quiet_op;go_big_quiet_on;rfl):hOp (Γ:=Γ) P ops w0 i K a M:=
 hOp_new z ho hz (fun g h1 h2 hE K' hK=>hq g K' (fun b e=>by subst e;exact hK _ (h g ⟨h1,h2⟩ hE)))
theorem rgQ{R:Exit→Act→World→Prop}{id:Nat}{w:World}(ord rest:List Nat)(hE:Hid (EnvX w0 w L))(hr:List.range l.toArray.size=ord++rest)
  (h:(∃u,EnvC w0 L u)→wpG P l (EnvC w0 L) (fun a'=>lexH (Γ:=HP.no) P l.toArray w0 (fun a M=> ∀u,EnvX w0 u M→R .normal a u) rest a' L) ord a):(Code.region id l.toArray false).wp P R a w:=
 rgP ord rest hE hr fun _ _=>h ⟨_,hE.out⟩
theorem rgK{R:Exit→Act→World→Prop}{id:Nat}{w:World}(ord:List Nat)(f:Nat)(hE:Hid (EnvX w0 w L))(hF:l.toArray.size=ord.length+f)
  (h:(∃u,EnvC w0 L u)→wpG P l (EnvC w0 L) (fun a'=>anyH (Γ:=HP.no) P .any l.toArray w0 (fun a M=> ∀u,EnvX w0 u M→R .normal a u) f (listedBy ord (Array.replicate l.toArray.size false)) a' L) ord a) (hm:P.follows .mixedOrders=true:=by kernel_rfl)
  (hB:(Region.noSelect l.toArray&& closedB .any l.toArray (Array.replicate l.toArray.size false) && lexG .any l.toArray ord (Array.replicate l.toArray.size false))=true:=by kernel_rfl):(Code.region id l.toArray true).wp P R a w:=
 rgH ord f hE hF hm hB fun _ _=>h ⟨_,hE.out⟩
theorem phE(ord rest:List Nat)(he: ∃u,EnvX w0 u L)
  (h:(∃u,EnvC w0 L u)→wpG P l (EnvC w0 L) (fun a'=>lexH (Γ:=Γ) P l.toArray w0 R0 rest a' L) ord a):lexH (Γ:=Γ) P l.toArray w0 R0 (ord++rest) a L:=
 phP ord rest he.choose_spec fun _=>h he
theorem phF(ord:List Nat)(f:Nat)(hF:F=ord.length+f)(he: ∃u,EnvX w0 u L)
  (h:(∃u,EnvC w0 L u)→wpG P l (EnvC w0 L) (fun a'=>anyH (Γ:=Γ) P md l.toArray w0 R0 f (listedBy ord listed) a' L) ord a) (hB:(Region.noSelect l.toArray&& closedB md l.toArray listed&& lexG md l.toArray ord listed)=true:=by kernel_rfl):anyH (Γ:=Γ) P md l.toArray w0 R0 F listed a L:=
 phH ord f hF he.choose_spec hB fun _=>h he
theorem aO(i:Nat){f:Nat}(h:hOp (Γ:=Γ) P ops w0 i (anyH (Γ:=Γ) P md ops w0 R0 f (listed.setIfInBounds i true)) a M)(hr:Region.ready md ops listed=[i]:=by kernel_rfl):anyH (Γ:=Γ) P md ops w0 R0 (f+1) listed a M:=anyH_one hr h
theorem eH{R:Exit→Act→World→Prop}(h: ∀u,Hid (EnvX w0 u L)→R .normal a u)(hr:Region.ready md ops listed=[]:=by kernel_rfl):wpG P l C (fun a'=>anyH (Γ:=Γ) P md ops w0 (fun a M=> ∀u,EnvX w0 u M→R .normal a u) 0 listed a' L) [] a:=enH hr h
theorem eM{R:Exit→Act→World→Prop}(h: ∀u,Hid (EnvX w0 u L)→R .normal a u)(hr:Region.ready md ops listed=[]:=by kernel_rfl):anyH (Γ:=Γ) P md ops w0 (fun a M=> ∀u,EnvX w0 u M→R .normal a u) 0 listed a L:=enM hr h
theorem wpG0_mono{Q Q':Act→Prop}(hQ: ∀a,Q a→Q' a): ∀(ord:List Nat)(a:Act),wpG0 P l C Q ord a→wpG0 P l C Q' ord a
 |[],a,h=>hQ a h
 | i ::rest,a,h=>by
  unfold wpG0 at h ⊢
  cases hl:l[i]? with
  |none=>simp only[hl]at h
  |some o=>
   simp only[hl]at h ⊢
   split at h
   · rename_i hw
     rw[if_pos hw]
     obtain⟨v,h1,h2⟩:=h
     exact⟨v,h1,wpG0_mono hQ rest _ h2⟩
   · rename_i hw
     rw[if_neg hw]
     exact wpG0_mono hQ rest _ h
theorem wpG0_app{Q:Act→Prop}: ∀(s r:List Nat)(a:Act),wpG0 P l C (fun b=>wpG0 P l C Q r b) s a→wpG0 P l C Q (s++r) a
 |[],r,a,h=>h
 | i ::s,r,a,h=>by
  show wpG0 P l C Q (i::(s++r)) a
  unfold wpG0 at h ⊢
  cases hl:l[i]? with
  |none=>simp only[hl]at h
  |some o=>
   simp only[hl]at h ⊢
   split at h
   · rename_i hw
     rw[if_pos hw]
     obtain⟨v,h1,h2⟩:=h
     exact⟨v,h1,wpG0_app s r _ h2⟩
   · rename_i hw
     rw[if_neg hw]
     exact wpG0_app s r _ h
theorem qw(n:Nat){ord:List Nat}(h0: ∃u,C u)(k:wpG P l C Q (ord.drop n) a')
  (h:(∃u,C u)→wpG P l C (fun b=>b=a') (ord.take n) a:=by
   intro h0
   repeat (first|refine qf rfl h0 ?_|refine qo rfl h0 ?_|refine qs rfl h0 ?_)
   exact⟨rfl⟩):wpG P l C Q ord a:=
 ⟨by
  have h1:=wpG0_mono (Q':=fun b=>wpG0 P l C Q (ord.drop n) b) (fun b e=>by subst e;exact k.out) _ _ (h h0).out
  have h2:=wpG0_app _ _ _ h1
  rwa[List.take_append_drop]at h2⟩
end
theorem lM{α β:Type}{f:α→β}{s:List α}:(s.map f).length=s.length:=List.length_map ..
theorem hD{p:Prop}(h:p):Hid p:=Lib.hid h
def Rz(f:FuncId)(args:Array Value)(w:World)(v:Value):Prop:=Calls Tryz.prog f args w fun e w'=>e= .returned v∧Below w.heap.size w w'
def Rt(w:World)(f:FuncId)(args:Array Value)(v:Value):Prop:= ∀u,EnvX w u []→Calls Tryz.prog f args u fun e w'=>e= .returned v∧Below u.heap.size u w'
def Rb(w:World)(f:FuncId)(args:Array Value)(v:Value):Prop:= ∀u,Below w.heap.size w u→Calls Tryz.prog f args u fun e w'=>e= .returned v∧Below u.heap.size u w'
def isRows(z:Nat)(L:List (List Value)):Prop:= ∀x∈L,x.length=z
theorem isRows.flat_len{z:Nat}{L:List (List Value)}(h:isRows z L):L.flatten.length=L.length*z:=by
 induction L with
 |nil=>simp
 |cons x L ih=>
  rw[List.flatten_cons,lA,h x (List.mem_cons_self ..),ih (fun y hy=>h y (mT hy)),List.length_cons,Nat.succ_mul]
  omega
theorem isRows.flat_get{z:Nat}{L:List (List Value)}(h:isRows z L): ∀(i j:Nat),i<L.length→j<z→L.flatten[i*z+j]?=(L.getD i [])[j]?:=by
 induction L with
 |nil=>intro i j hi;simp at hi
 | cons x L ih=>
  intro i j hi hj
  have hx:=h x (List.mem_cons_self ..)
  rw[List.flatten_cons]
  cases i with
  |zero=>
   rw[Nat.zero_mul,Nat.zero_add,List.getElem?_append_left (by omega)]
   rfl
  |succ i=>
   rw[List.getElem?_append_right (by rw[hx,Nat.succ_mul];omega),hx,show (i+1)*z+j- z=i*z+j by rw[Nat.succ_mul];omega,ih (fun y hy=>h y (mT hy)) i j (by simpa using hi) hj]
   simp
theorem isRows.get{z:Nat}{L:List (List Value)}(h:isRows z L){i:Nat}(hi:i<L.length):(L.getD i []).length=z:=by
 rw[gD,gE hi]
 exact h _ (List.getElem_mem hi)
def CellsIn(w:World)(B:Nat)(A:Option Addr)(xs:List Value):Prop:=0<xs.length→ ∃ad,A=some ad∧ad.block<B∧ ∀j v,xs[j]?=some v→w.cell? (ad.add j)=some v
theorem CellsIn.below{w w':World}{B:Nat}{A:Option Addr}{xs:List Value}(h:CellsIn w B A xs)(hb:Below B w w'):CellsIn w' B A xs:=by
 intro hp
 obtain⟨ad,e,hlt,hc⟩:=h hp
 refine⟨ad,e,hlt,fun j v hv=>?_⟩
 have hbl:(ad.add j).block=ad.block:=by unfold Addr.add;split<;>rfl
 exact(hb.cell (p:=ad.add j) (by rw[hbl];exact hlt)).trans (hc j v hv)
theorem CellsIn.more{w:World}{B B':Nat}{A:Option Addr}{xs:List Value}(h:CellsIn w B A xs)(hB:B≤B'):CellsIn w B' A xs:=fun hp=>by
 obtain⟨ad,e,hlt,hc⟩:=h hp
 exact⟨ad,e,Nat.lt_of_lt_of_le hlt hB,hc⟩
theorem CellsIn.up{w w':World}{A:Option Addr}{xs:List Value}(h:CellsIn w w.heap.size A xs)(hb:Below w.heap.size w w'):CellsIn w' w'.heap.size A xs:=(h.below hb).more hb.size
theorem add_addN(a:Addr)(l j:Nat):(a.add l).add j=a.add (l+j):=by
 unfold Addr.add
 by_cases h:l=0
 · simp[h]
 · by_cases h2:j=0
   · simp[h,h2]
   · simp[h,h2,Nat.add_assoc]
structure AggT(ty:TypeId)(z:Nat):Prop where
  agg: ∀w,(isAgg ty).run Tryz.prog w= .ok true w
  size:(Tryz.prog.info? ty).map (·.size)=some z
theorem run_loadAgg{ty:TypeId}{z:Nat}(D:AggT ty z){w:World}{ad:Addr}(xs:List Value)(hx:xs.length=z)(h: ∀j v,xs[j]?=some v→w.cell? (ad.add j)=some v):(loadVar ty ad).run Tryz.prog w= .ok (.agg xs.toArray) w:=by
 have hc:=run_loadCells_list (P:=Tryz.prog) w ad xs h
 have hs:=D.size
 rw[hx]at hc
 cases hq:Tryz.prog.info? ty with
 |none=>rw[hq]at hs;cases hs
 |some i=>
  rw[hq]at hs
  simp only[Option.map_some,Option.some.injEq]at hs
  simp[loadVar,D.agg,sizeOf,typeInfo,hq,hs,hc]
theorem box_cell{w0 u:World}{M:Boxes}{g k:Nat}{t:TypeId}{cs:Array Value}{v:Value}(hu:EnvC w0 M u)(hm:(g,oc cs t)∈M)(h:cs[k]?=some v):u.cell? ⟨g,k,none⟩=some v:=by
 rw[Row.cell (EnvX.row hu hm)]
 exact h
theorem box_agg{ty:TypeId}{z:Nat}(D:AggT ty z){w0 u:World}{M:Boxes}{g k:Nat}{t:TypeId}{cs:Array Value}(hu:EnvC w0 M u)(hm:(g,oc cs t)∈M)(xs:List Value)(hx:xs.length=z)(h:(cs.toList.drop k).take z=xs):(loadVar ty ⟨g,k,none⟩).run Tryz.prog u= .ok (.agg xs.toArray) u:=by
 refine run_loadAgg D xs hx fun j v hv=>?_
 rw[Addr.add_mid]
 refine box_cell hu hm ?_
 subst h
 have hj:j<z:=by
  rcases Nat.lt_or_ge j z with h'|h'
  · exact h'
  · rw[gN (by omega)]at hv
    cases hv
 rw[List.getElem?_take_of_lt hj,List.getElem?_drop,Array.getElem?_toList]at hv
 exact hv
section
variable {a:Act}{dst:Option Tmp}{x:Operand}{ty ty':TypeId}{pos:String}{after:Array Edge}{gd:Option (Nat × Bool)}
theorem load_any_op{ad:Addr}{v:Value}(u:World)(hr:(loadVar ty' ad).run Tryz.prog u= .ok v u)(hx:a.eval x= .pointer (some ad)):
  (execOp a.eval ⟨dst, .load ty' x,ty,pos,after,gd⟩).run Tryz.prog u= .ok (.value v) u:=by
 unfold execOp
 simp only[hx,Instr.loadAt,Instr.sureAddr,Sem.run_bind,Sem.run_pure,Result.andThen_ok,hr]
theorem run_load_one{ad:Addr}{v:Value}(ha: ∀w,(isAgg ty').run Tryz.prog w= .ok false w)(u:World)(h:u.cell? ad=some v):(loadVar ty' ad).run Tryz.prog u= .ok v u:=by
 have h':(load ad).run Tryz.prog u= .ok v u:=by rw[run_load,h]
 simp only[loadVar,Sem.run_bind,ha,Result.andThen_ok,Bool.false_eq_true,if_false,h']
end
structure ElemT(st e:TypeId)(z bytes:Nat)(zero:Value):Prop where
  und:Tryz.prog.underlying st=some (.slice e)
  info:(Tryz.prog.info? e).map (fun i=>(i.zero,i.size,i.bytes))=some (some zero,z,bytes)
  zs:zero.cells.size=z
  pos:0<z
  small:bytes≤1000
  smallz:z≤1000
def FreshR(e:TypeId)(z n:Nat)(xs:List Value)(x:Value)(N:Boxes):Prop:=
  (∃g cap cur,x= .slice (some ⟨g,0,none⟩) n cap∧N=[(g,oc cur e)]∧n≤cap∧cap≤maxLen∧cur.size=cap*z∧cur.toList.take (n*z)=xs)∨
  (x= .slice none 0 0∧N=[]∧n=0∧xs=[])
theorem fresh_of_own{w:World}{B z n:Nat}{e:TypeId}{v:Value}{xs:List Value}(h:w.ownsRow B e z v n xs): ∃N,FreshR e z n xs v N∧ ∀y∈N,B≤y.1∧w.heap[y.1]?=some y.2∧v.ownBlock=some y.1:=by
 rcases h.2 with ⟨e1,e0⟩|⟨g,cap,cur,rfl,h1,h2,h3,h4,h5,h6⟩
 · subst e0
   exact⟨[], .inr ⟨e1,rfl,rfl,List.eq_nil_of_length_eq_zero (by rw[h.1,Nat.zero_mul])⟩,fun y hy=>by cases hy⟩
 · refine⟨_, .inl ⟨g,cap,cur,rfl,rfl,h3,h4,h5,h6⟩,fun y hy=>?_⟩
   cases mS.1 hy
   exact⟨h1,h2,rfl⟩
theorem FreshR.own{w:World}{B z n:Nat}{e:TypeId}{v:Value}{xs:List Value}{N:Boxes}(h:FreshR e z n xs v N)(hl:xs.length=n*z)(hN: ∀y∈N,B≤y.1∧w.heap[y.1]?=some y.2):w.ownsRow B e z v n xs:=by
 refine⟨hl,?_⟩
 rcases h with ⟨g,cap,cur,rfl,rfl,h3⟩|⟨rfl,rfl,rfl,rfl⟩
 · obtain⟨k1,k2⟩:=hN _ (mS.2 rfl)
   exact .inr ⟨g,cap,cur,rfl,k1,k2,h3⟩
 · exact .inl ⟨rfl,rfl⟩
theorem FreshR.block{z n:Nat}{e:TypeId}{v:Value}{xs:List Value}{N:Boxes}(h:FreshR e z n xs v N): ∀g,v.ownBlock=some g→ ∃o,(g,o)∈N:=by
 intro g hg
 rcases h with ⟨g',cap,cur,rfl,rfl,h3⟩|⟨rfl,rfl,rfl,rfl⟩
 · cases hg
   exact⟨_,mS.2 rfl⟩
 · cases hg
theorem own_cells{w:World}{B z n c:Nat}{e:TypeId}{A:Option Addr}{xs:List Value}(h:w.ownsRow B e z (.slice A n c) n xs):CellsIn w w.heap.size A xs:=by
 intro hp
 rcases h.2 with ⟨e1,e2⟩|⟨g,cap,cur,e1,_,hg,_⟩
 · have:=h.1
   rw[e2,Nat.zero_mul]at this
   omega
 · injection e1 with e1 e2 e3
   subst e1
   exact⟨_,rfl,Row.lt (t:=e) hg,fun j v hv=>h.cells (g:=g) rfl j v hv⟩
theorem ownR_form{w:World}{B z n:Nat}{e:TypeId}{v:Value}{xs:List Value}(h:w.ownsRow B e z v n xs): ∃A c,v= .slice A n c∧n≤c∧c≤maxLen:=by
 rcases h.2 with ⟨rfl,e⟩|⟨g,cap,cur,rfl,_,_,h1,h2,_⟩
 · exact⟨none,0,by rw[e],by omega,Nat.zero_le _⟩
 · exact⟨_,cap,rfl,h1,h2⟩
theorem callsR_fresh{f:FuncId}{args:Array Value}{u:World}{e:TypeId}{z n:Nat}{xs:List Value}(h:Calls Tryz.prog f args u fun en w'=>(∃v,en= .returned v∧w'.ownsRow u.heap.size e z v n xs)∧Below u.heap.size u w'):
  Calls Tryz.prog f args u fun en w''=> ∃x N,en= .returned x∧FreshR e z n xs x N∧Below u.heap.size u w''∧ ∀y∈N,u.heap.size≤y.1∧w''.heap[y.1]?=some y.2:=
 h.mono fun en w'⟨⟨v,he,hv⟩,hb⟩=>by
  obtain⟨N,hF,hN⟩:=fresh_of_own hv
  exact⟨v,N,he,hF,hb,fun y hy=>⟨(hN y hy).1,(hN y hy).2.1⟩⟩
section
variable {st e:TypeId}{z bytes:Nat}{zero:Value}
theorem appendR(T:ElemT st e z bytes zero){w:World}{B n:Nat}{v:Value}{xs:List Value}(h:w.ownsRow B e z v n xs){ys:List Value}{ad:Addr}{m c:Nat}(hy:ys.length=m*z)(hc: ∀j u,ys[j]?=some u→w.cell? (ad.add j)=some u)(h1: ∀u∈ys,u.oneCell'=true)(hs:n+m≤2000000)(hB:B≤w.heap.size):
  ∃v' w',(Builtin.append_ #[st,st] st #[v, .slice (some ad) m c]).run Tryz.prog w= .ok v' w'∧w'.ownsRow B e z v' (n+m) (xs++ys)∧w.grownBy w' v.ownBlock∧(v'.ownBlock=v.ownBlock∨v'.ownBlock=some w.heap.size):=by
 cases hq:Tryz.prog.info? e with
 |none=>have:=T.info;rw[hq]at this;cases this
 |some i=>
  have hi:=T.info
  rw[hq]at hi
  simp only[Option.map_some,Option.some.injEq,Prod.mk.injEq]at hi
  obtain⟨k1,k2,k3⟩:=hi
  have hsm:=T.small
  have hmul:(n+m)*bytes≤2000000*1000:=Nat.mul_le_mul hs hsm
  obtain⟨v',w',hrun,hown',hg,_,ho⟩:=run_append_own_at (P:=Tryz.prog) w B st st e i zero z bytes T.und hq k1 k2 k3 T.zs T.pos v n xs h ad m c ys hy hc h1 (by unfold maxLen;omega) (by omega) hB
  exact⟨v',w',hrun,hown',hg,ho⟩
def BuiltR(e:TypeId)(ys:List Value)(v:Value)(N:Boxes):Prop:= ∃g,v= .slice (some ⟨g,0,none⟩) 1 1∧N=[(g,oc ys.toArray e)]
theorem run_buildR(T:ElemT st e z bytes zero)(ys:List Value)(hy:ys.length=z)(h1: ∀u∈ys,u.oneCell'=true)(u:World):(Instr.buildSlice st 1 #[(0, .agg ys.toArray)]).run Tryz.prog u= .ok (.slice (some ⟨u.heap.size,0,none⟩) 1 1) (u.alloc (.cells ys.toArray e)):=by
 cases hq:Tryz.prog.info? e with
 |none=>have:=T.info;rw[hq]at this;cases this
 |some i=>
  have hi:=T.info
  rw[hq]at hi
  simp only[Option.map_some,Option.some.injEq,Prod.mk.injEq]at hi
  obtain⟨k1,k2,k3⟩:=hi
  have hsm:=T.small
  have hsz2:=T.smallz
  have hpz:=T.pos
  refine run_buildSlice u st e 1 _ ys.toArray i zero T.und hq k1 (by omega) (by omega) ?_
  have hsz:(Value.agg ys.toArray).cells.size=z:=by simp[Value.cells,hy]
  rw[k2]
  have hf:=Great.fill_whole (s:=z) T.pos [.agg ys.toArray] ((Array.range (1*z)).map (zero.cells[· % zero.cells.size]!)) (by intro v hv;cases mS.1 hv;exact hsz) (by simp)
  simpa [Value.cells] using hf
theorem FAt_buildR(T:ElemT st e z bytes zero){ys:List Value}(hy:ys.length=z)(h1: ∀u∈ys,u.oneCell'=true){a:Act}{dst:Option Tmp}{x:Operand}{ty:TypeId}{pos:String}{after:Array Edge}{gd:Option (Nat × Bool)}(hx:a.eval x= .agg ys.toArray)(u:World):
  FAt Tryz.prog ⟨dst, .buildSlice st 1 #[(0,x)],ty,pos,after,gd⟩ a (BuiltR e ys) u:=by
 unfold FAt execOp
 simp only[List.map_toArray,List.map_cons,List.map_nil,hx,Sem.run_bind,Sem.run_pure,run_buildR T ys hy h1 u,Result.andThen_ok]
 refine⟨(Below.refl _ _).alloc (Nat.le_refl _) _,_,⟨_,rfl,rfl⟩,fun y hy=>?_⟩
 cases mS.1 hy
 exact⟨Nat.le_refl _,heap_alloc_new u _⟩
def GrownR(w0:World)(e:TypeId)(z n:Nat)(xs:List Value)(M0:Boxes)(v:Value)(M':Boxes):Prop:= ∃N,M'=N++M0∧FreshR e z n xs v N∧freshN w0 N M0
theorem appR_op(T:ElemT st e z bytes zero){w0 u:World}{M:Boxes}(M0:Boxes){N:Boxes}{n m c:Nat}{xs:List Value}{v:Value}{ys:List Value}{g:Nat}{t:TypeId}{a:Act}{dst:Option Tmp}{y x:Operand}{pos:String}{after:Array Edge}{gd:Option (Nat × Bool)}
   (hu:EnvX w0 u M) (hl:xs.length=n*z) (hy:ys.length=m*z) (h1: ∀u∈ys,u.oneCell'=true) (hF:FreshR e z n xs v N) (hN: ∀y∈N,y∈M∧w0.heap.size≤y.1) (hg:(g,oc ys.toArray t)∈M) (hM0: ∀z∈M0,z∈M∧ ∀y∈N,z.1≠y.1) (hs:n+m≤2000000)
   (hyv:a.eval y=v) (hx:a.eval x= .slice (some ⟨g,0,none⟩) m c):
   ∃v' u' M',(execOp a.eval ⟨dst, .call {callee:= .builtin .append,args:= #[y,x],argTypes:= #[st,st]},st,pos,after,gd⟩).run Tryz.prog u= .ok (.value v') u'∧EnvX w0 u' M'∧GrownR w0 e z (n+m) (xs++ys) M0 v' M':=by
 have hown:u.ownsRow w0.heap.size e z v n xs:=hF.own hl (fun y hy=>⟨(hN y hy).2,hu.box _ _ (hN y hy).1⟩)
 have hcell: ∀j c,ys[j]?=some c→u.cell? ((⟨g,0,none⟩:Addr).add j)=some c:=by
   intro j c hc
   rw[Addr.add_mid,Nat.zero_add]
   exact box_cell hu hg (by simpa using hc)
 obtain⟨v',u',hrun,hown',hgr,hob⟩:=appendR T (c:=c) hown hy hcell h1 hs hu.bel.size
 obtain⟨N',hF',hN'⟩:=fresh_of_own hown'
 refine⟨v',u',N'++M0,?_,?_,N',rfl,hF',?_⟩
 · unfold execOp
   simp only[resolve,invoke,builtin,Sem.run_bind,Sem.run_pure,Result.andThen_ok,List.map_toArray,List.map_cons,List.map_nil,hyv,hx,hrun]
 · have hbel:Below w0.heap.size u u':=below_of_grown hgr (fun r hr=>(hown.lt r hr).1) hu.bel.size
   refine⟨hu.bel.trans hbel,fun g' o hm=>?_⟩
   rcases List.mem_append.1 hm with e|e
   · exact(hN' _ e).2.1
   · have hin:=hM0 _ e
     rw[hgr.block g' (hu.lt hin.1) (fun e2=>by
      obtain⟨o2,ho2⟩:=hF.block g' e2.symm
      exact hin.2 _ ho2 rfl)]
     exact hu.box _ _ hin.1
 · intro y hy
   refine⟨(hN' y hy).1,fun z hz e=>?_⟩
   have hb:=(hN' y hy).2.2
   have hin:=hM0 z hz
   rcases hob with h|h
   · obtain⟨o2,ho2⟩:=hF.block y.1 (h.symm.trans hb)
     exact hin.2 _ ho2 e
   · have h1:=hu.lt (g:=z.1) (o:=z.2) hin.1
     have h2:u.heap.size=y.1:=Option.some.inj (h.symm.trans hb)
     omega
theorem fill_two{place:Nat→Option (Nat × Nat)}(A B zs:Array Value){p q:Nat}(hp:A.size=p)(hq:B.size=q)(h0:place 0=some (0,p))(h1:place 1=some (p,q))(hz:zs.size=p+q):
   Instr.fill place zs [(0, .agg A),(1, .agg B)]=some (A++B):=by
 subst hp hq
 obtain⟨g1,g2⟩:=Great.foldl_set 0 A.toList 0 zs
 obtain⟨k1,k2⟩:=Great.foldl_set A.size B.toList 0 ((A.toList.zipIdx 0).foldl (fun cs(x:Value × Nat)=>cs.setIfInBounds (0+x.2) x.1) zs)
 have e1:(A.zipIdx.foldl (fun cs(x:Value × Nat)=>cs.setIfInBounds (0+x.2) x.1) zs)=(A.toList.zipIdx 0).foldl (fun cs(x:Value × Nat)=>cs.setIfInBounds (0+x.2) x.1) zs:=by rw[←Array.foldl_toList,Array.toList_zipIdx]
 have e2: ∀ws:Array Value,(B.zipIdx.foldl (fun cs(x:Value × Nat)=>cs.setIfInBounds (A.size+x.2) x.1) ws)=(B.toList.zipIdx 0).foldl (fun cs(x:Value × Nat)=>cs.setIfInBounds (A.size+x.2) x.1) ws:=fun ws=>by rw[←Array.foldl_toList,Array.toList_zipIdx]
 unfold Instr.fill
 simp only[h0,Value.cells,e1]
 split
 · rename_i h
   simp at h
   omega
 unfold Instr.fill
 simp only[h1,Value.cells,e2]
 split
 · rename_i h
   simp only[g1]at h
   simp at h
   omega
 unfold Instr.fill
 congr 1
 apply Array.ext_getElem?
 intro k
 rw[k2 k,g2 k,Array.getElem?_append]
 have g3:((A.toList.zipIdx 0).foldl (fun cs(x:Value × Nat)=>cs.setIfInBounds x.2 x.1) zs).size=zs.size:=by simpa using g1
 simp only[Array.length_toList,Nat.add_zero,Nat.zero_add,Nat.sub_zero,Array.getElem?_toList,g3]
 by_cases h:k<A.size
 · rw[if_pos h,if_neg (by omega),if_pos (by omega)]
 · rw[if_neg h]
   by_cases h':k<A.size+B.size
   · rw[if_pos (by omega)]
   · have h3:zs[k]?=none:=Array.getElem?_eq_none (by omega)
     have h4:B[k- A.size]?=none:=Array.getElem?_eq_none (by omega)
     rw[if_neg (by omega),if_neg (by omega),h3,h4]
theorem index_op{t e:TypeId}{len z:Nat}(hu:Tryz.prog.underlying t=some (.array len e))(D:AggT e z){cs:Array Value}{i:Nat}(hi:i<len){v:Array Value}(hv:cs.extract (i*z) (i*z+z)=v){a:Act}{dst:Option Tmp}{x y:Operand}{ty:TypeId}{pos:String}{after:Array Edge}{gd:Option (Nat × Bool)}(u:World)
  (hx:a.eval x= .agg cs) (hy:a.eval y= .int .i64 (i:Int)):(execOp a.eval ⟨dst, .index t x y,ty,pos,after,gd⟩).run Tryz.prog u= .ok (.value (.agg v)) u:=by
 have hs:=D.size
 cases hq:Tryz.prog.info? e with
 |none=>rw[hq]at hs;cases hs
 | some k=>
  rw[hq]at hs
  simp only[Option.map_some,Option.some.injEq]at hs
  have hsz:(sizeOf e).run Tryz.prog u= .ok z u:=by simp[sizeOf,typeInfo,hq,hs]
  have hw:IntKind.i64.wrap (i:Int)=(i:Int)∨True:= .inr trivial
  have h1:(0:Int)≤(i:Int)∧(i:Int)<(len:Int):=by omega
  have hp:(part e cs (i*z)).run Tryz.prog u= .ok (.agg v) u:=by
   simp[part,D.agg,hsz,hv]
  unfold execOp
  simp only[hx,hy]
  simp[Instr.index,asIntOf,run_underlying hu,h1,hsz,hp]
  omega
theorem FAt_makeR(T:ElemT st e z bytes zero){n:Nat}(hn:n≤10000){a:Act}{dst:Option Tmp}{x:Operand}{ty:TypeId}{pos:String}{after:Array Edge}{gd:Option (Nat × Bool)}(hx:a.eval x= .int .i64 (n:Int))(u:World):
  FAt Tryz.prog ⟨dst, .makeSlice st (.const (.int .i64 0)) x,ty,pos,after,gd⟩ a (fun v N=> ∃g cur,v= .slice (some ⟨g,0,none⟩) 0 n∧N=[(g,oc cur e)]∧cur.size=n*z) u:=by
 cases hq:Tryz.prog.info? e with
 |none=>have:=T.info;rw[hq]at this;cases this
 |some i=>
  have hi:=T.info
  rw[hq]at hi
  simp only[Option.map_some,Option.some.injEq,Prod.mk.injEq]at hi
  obtain⟨k1,k2,k3⟩:=hi
  have hsm:=T.small
  have hmul:bytes*n≤1000*10000:=Nat.mul_le_mul hsm hn
  have hr:=run_make (P:=Tryz.prog) u st e i zero T.und hq k1 .i64 .i64 0 (n:Int) (by omega) (by omega) (by rw[k3,←Int.natCast_mul];omega) (by omega)
  have ha0:a.eval (.const (.int .i64 0))= .int .i64 0:=rfl
  unfold FAt execOp
  simp only[hx,ha0,Sem.run_bind,Sem.run_pure,hr,Result.andThen_ok]
  refine⟨(Below.refl _ _).alloc (Nat.le_refl _) _,[(u.heap.size,oc (madeCells zero.cells ((n:Int).toNat*i.size)) e)],⟨u.heap.size,madeCells zero.cells ((n:Int).toNat*i.size),rfl,rfl,?_⟩,fun y hy=>?_⟩
  · rw[size_madeCells,k2]
    simp
  · cases mS.1 hy
    exact⟨Nat.le_refl _,heap_alloc_new u _⟩
end
open Go.ChangeShapes Go.WideShapes Go.ChangeAt Go.RowKit Go.Deep
theorem addr_add_add(a:Addr)(x y:Nat):(a.add x).add y=a.add (x+y):=by
 unfold Addr.add
 by_cases h0:x=0
 · subst h0
   simp
 · by_cases h2:y=0
   · subst h2
     simp[h0]
   · simp[h0,h2,Nat.add_assoc]
def halfGo(n:Nat):Nat→Nat→Nat
  |0,k=>k
  |f+1,k=>if 2*k<n then halfGo n f (2*k)else k
def halfT(n:Nat):Nat:=halfGo n n 1
theorem halfGo_spec(n:Nat): ∀(f k:Nat),1≤k→k<n→n≤k*2^f→k≤halfGo n f k∧halfGo n f k<n∧n≤2*halfGo n f k∧ ∃e,halfGo n f k=k*2^e
 |0,k,_,hkn,hf=>by
  rw[Nat.pow_zero,Nat.mul_one]at hf
  omega
 |f+1,k,hk,hkn,hf=>by
  unfold halfGo
  by_cases h:2*k<n
  · rw[if_pos h]
    obtain⟨h1,h2,h3,e,h4⟩:=halfGo_spec n f (2*k) (by omega) h (by rw[Nat.pow_succ]at hf;rw[Nat.mul_comm 2 k,Nat.mul_assoc,Nat.mul_comm 2];exact hf)
    exact⟨by omega,h2,h3,e+1,by rw[h4,Nat.pow_succ,Nat.mul_comm 2 k,Nat.mul_assoc,Nat.mul_comm 2]⟩
  · rw[if_neg h]
    exact⟨Nat.le_refl _,hkn,by omega,0,by simp⟩
theorem half_spec{n:Nat}(h:2≤n):1≤halfT n∧halfT n<n∧n≤2*halfT n∧ ∃e,halfT n=2^e:=by
 have h0:n≤1*2^n:=by rw[Nat.one_mul];exact Nat.le_of_lt Nat.lt_two_pow_self
 obtain⟨h1,h2,h3,e,h4⟩:=halfGo_spec n n 1 (Nat.le_refl _) (by omega) h0
 exact⟨h1,h2,h3,e,by unfold halfT;rw[h4,Nat.one_mul]⟩
theorem pow_unique{a b n:Nat}(h1:2^a<n)(h2:n≤2*2^a)(h3:2^b<n)(h4:n≤2*2^b):a=b:=by
 have e1:2*2^a=2^ (a+1):=by rw[Nat.pow_succ,Nat.mul_comm]
 have e2:2*2^b=2^ (b+1):=by rw[Nat.pow_succ,Nat.mul_comm]
 rw[e1]at h2
 rw[e2]at h4
 have k1:2^a<2^ (b+1):=Nat.lt_of_lt_of_le h1 h4
 have k2:2^b<2^ (a+1):=Nat.lt_of_lt_of_le h3 h2
 have:=(Nat.pow_lt_pow_iff_right (by decide:1<2)).1 k1
 have:=(Nat.pow_lt_pow_iff_right (by decide:1<2)).1 k2
 omega
theorem half_unique{n e:Nat}(h1:2^e<n)(h2:n≤2*2^e):halfT n=2^e:=by
 have hp:0<2^e:=Nat.pow_pos (by decide)
 obtain⟨_,k2,k3,e',k4⟩:=half_spec (n:=n) (by omega)
 rw[k4]at k2 k3 ⊢
 rw[pow_unique k2 k3 h1 h2]
def textT(a b:List Int):List Int:=1::(a++b)
def nodeT(a b:List Int):List Int:=sumL (textT a b)
def leafT(b:List Int):List Int:=sumL (0::b)
def rootF:Nat→List (List Int)→List Int
  |0,l=>l.headD []
  |f+1,l=>if l.length≤1 then l.headD []else nodeT (rootF f (l.take (halfT l.length))) (rootF f (l.drop (halfT l.length)))
def rootT(l:List (List Int)):List Int:=if l.length=0 then sumL [2]else rootF l.length l
theorem rootF_more: ∀(f g:Nat)(l:List (List Int)),l.length≤f→l.length≤g→rootF f l=rootF g l
 |0,0,_,_,_=>rfl
 |0,g+1,l,h,_=>by
  unfold rootF
  rw[if_pos (by omega)]
 |f+1,0,l,_,h=>by
  unfold rootF
  rw[if_pos (by omega)]
 |f+1,g+1,l,h1,h2=>by
  unfold rootF
  by_cases h:l.length≤1
  · rw[if_pos h,if_pos h]
  · rw[if_neg h,if_neg h]
    obtain⟨a,b,_,_⟩:=half_spec (n:=l.length) (by omega)
    rw[rootF_more f g (l.take _) (by rw[List.length_take];omega) (by rw[List.length_take];omega),rootF_more f g (l.drop _) (by rw[List.length_drop];omega) (by rw[List.length_drop];omega)]
theorem root_none:rootT []=sumL [2]:=rfl
theorem root_one(x:List Int):rootT [x]=x:=rfl
theorem root_cut{l:List (List Int)}(h:2≤l.length):rootT l=nodeT (rootT (l.take (halfT l.length))) (rootT (l.drop (halfT l.length))):=by
 obtain⟨a,b,_,_⟩:=half_spec h
 have e1:(l.take (halfT l.length)).length=halfT l.length:=by rw[List.length_take];omega
 have e2:(l.drop (halfT l.length)).length=l.length- halfT l.length:=List.length_drop
 unfold rootT
 rw[if_neg (by omega),if_neg (by omega),if_neg (by omega)]
 obtain⟨n,hn⟩: ∃n,l.length=n+1:=⟨l.length- 1,by omega⟩
 rw[rootF_more l.length (n+1) l (Nat.le_refl _) (by omega),rootF,if_neg (by omega),rootF_more n _ (l.take _) (by omega) (Nat.le_refl _),rootF_more n _ (l.drop _) (by omega) (Nat.le_refl _)]
theorem shaof_any(A:Option Addr)(n c:Nat)(xss:List (List Int))(w:World)(hl:xss.length=n)(hx:Parts w w.heap.size A xss)(hn:n≤9223372036854775807)(hs:xss.flatten.length≤70368744177664)(ht:Tables w):
  Rz 65 #[.slice A n c] w (.agg (arrB 32 (sumL xss.flatten))):=by
 unfold Rz
 have HL:=hD hl
 have HX:=hD hx
 clear hl hx
 go_enter func65,ntmps65
 go_wp2_with fail
 go_loopw [3,8] (fun v i u=> ∃k:Nat,k≤n∧i= .int .i64 k∧Below w.heap.size w u∧Hid (Row u w.heap.size 26 (arrB 32 [])∧u.ownsRow (w.heap.size+1) 5 1 v (xss.take k).flatten.length ((xss.take k).flatten.map u8v))) (fun _ i _=>n- (intOf i).toNat)
 case atStart=>exact⟨0,by omega,rfl,by go_grown,Row.new w 26 _,World.ownsRow_nil _ _ _ _⟩
 case round=>
  obtain⟨k,hk,rfl,hbl,hrows⟩:=hrel
  obtain⟨r0,hown⟩:=hrows.out
  have s0:=r0.lt
  by_cases hlt:k<n
  · have hg:=gE (by rw[HL.out];exact hlt:k<xss.length)
    have hst:=hD (flat_step xss k _ hg)
    obtain⟨b,o,a,c1,rfl,hb,hc,hy,hr⟩:=HX.out k _ hg
    have hle:(xss.take k).flatten.length+(xss[k]'(by rw[HL.out];exact hlt)).length≤xss.flatten.length:=by
     have e:=congrArg List.length hst.out
     rw[lA]at e
     have h2:(xss.take (k+1)).flatten.length≤xss.flatten.length:=by
      conv=>rhs;rw[←List.take_append_drop (k+1) xss,List.flatten_append,lA]
      omega
     omega
    generalize xss[k]'(by rw[HL.out];exact hlt)=ys at *
    obtain⟨v',w',hrun,hown',hgr⟩:=append_bytes _ _ _ _ wr hown a ys.length c1 w.heap.size ys rfl (hy.below hbl) (by omega) (by omega)
    have hcell:=(hbl.cell (p:=⟨b,o+k,none⟩) hb).trans hc
    have hb2:=below_of_grown (B:=w.heap.size+1) hgr (fun g hg=>(hown.lt g hg).1) (by omega)
    have R0:=hD (r0.below hb2 (by omega))
    have BB:=hD (hbl.trans (hb2.mono (by omega)))
    have OO:=hD hown'
    clear r0 hown hrows hg hc hy hr hgr hb2 hown' hle
    have hk2:(k:Int)<(n:Int):=by omega
    have HRUN:=hD hrun
    clear hrun
    go_wp2_with (at_builtin;(with_reducible refine wpList_append_run (o:=⟨some 14,_,_,_,_,_⟩) ?_ (.tmp 12) (.tmp 13) ?_ ?_ ?_ ?_ HRUN.out ?_);(rfl);(rfl);(rfl);(rfl);(rfl))
    go_roundw
    case rel=>
     refine⟨k+1,by omega,by go_num,BB.out,R0.out,?_⟩
     rw[hst.out,lA,List.map_append]
     exact OO.out
    case measure=>simp[intOf];omega
  · obtain rfl:k=n:=by omega
    have hT:xss.take k=xss:=tL (by rw[HL.out];exact Nat.le_refl _)
    rw[hT]at hown
    obtain⟨A1,c1,rfl⟩:=own_form hown
    have hr: ∀x∈xss.flatten,0≤x∧x≤255:=by
     intro x hx
     obtain⟨l,hl,hxl⟩:=List.mem_flatten.1 hx
     obtain⟨j,hj,rfl⟩:=List.getElem_of_mem hl
     obtain⟨_,_,_,_,_,_,_,_,hr⟩:=HX.out j _ (gE hj)
     exact hr x hxl
    have hby:=own_bytes hown
    have R0:=hD r0
    clear hown r0 hrows hT
    have HRR:=hD hr
    have HBY:=hD hby
    clear hr hby
    generalize hFL:xss.flatten=fl at *
    have HFL:=hD hFL
    clear hFL
    obtain⟨q,hq⟩: ∃q,fl.length=q:=⟨_,rfl⟩
    rw[hq]
    have HQ:=hD hq
    have hs2:q≤70368744177664:=by omega
    clear hq
    go_wp2_with fail
    refine(sum_any A1 q c1 fl wr HQ.out hs2 HBY.out HRR.out (ht.below hbl)).mono ?_
    rintro e w3 ⟨rfl,hb3⟩
    have hsz:Hid ((arrB 32 (sumL fl)).size=32∧(arrB 32 []).size=(arrB 32 (sumL fl)).size∧(arrB 32 (sumL fl)).all (·.oneCell')=true):=
     Lib.hid ⟨arrB_size _ _ (by rw[sumL_len];omega),by rw[arrB_size 32 (sumL fl) (by rw[sumL_len];omega),arrB_size 32 [] (by simp)],arrB_one _ _⟩
    have Q0:Hid (w3.heap[w.heap.size]?=some (.cells (arrB 32 []) 26 (0,0))):=R0.out.below hb3 R0.out.lt
    have bl3:Below w.heap.size w w3:=hbl.trans (hb3.mono hbl.size)
    clear hb3 R0
    generalize hE:arrB 32 (sumL fl)=cs at *
    have HE:=hD hE
    clear hE
    generalize arrB 32 []=zs at *
    go_wp2_with (first
     |((with_reducible refine wpList_store_row (o:=⟨none, .store 26 _ _,_,_,_,_⟩) ?_ 26 (.tmp 2) (.tmp 17) ?_ w.heap.size cs ?_ ?_ 26 zs Q0.out (info26 cs hsz.out.1) hsz.out.2.1 hsz.out.2.2 ?_);(rfl);(rfl);(rfl);(rfl))
     |((with_reducible refine bodyPost_ret (v:= .agg cs) ?_ ?_ ?_);(exact results_cell_row (p:=2) (ty:=26) results65 _ _ w.heap.size 26 cs (0,0) _ rfl (setRow_heap _ _ zs cs 26 (0,0) Q0.out) underlying26 rfl (info26 cs hsz.out.1));(rfl)))
    exact⟨by rw[HFL.out,HE.out],below_setRow bl3 (Nat.le_refl _) _⟩
open Go
def InW(x:Int):Prop:=0≤x∧x<4294967296
theorem InW.mod(x:Int):InW (x % 4294967296):=⟨by omega,by omega⟩
theorem InW.getD(l:List Int)(h: ∀x∈l,InW x)(i:Nat):InW (l.getD i 0):=by
 by_cases hi:i<l.length
 · have e:l.getD i 0=l[i]:=by simp[List.getD,gE hi]
   rw[e]
   exact h _ (List.getElem_mem hi)
 · have e:l.getD i 0=0:=by simp[List.getD,gN (by omega:l.length≤i)]
   rw[e]
   exact⟨by omega,by omega⟩
structure S8.In(s:S8):Prop where
  a:InW s.a
  b:InW s.b
  c:InW s.c
  d:InW s.d
  e:InW s.e
  f:InW s.f
  g:InW s.g
  h:InW s.h
theorem S8.In.add(s t:S8):(s.add t).In:=⟨InW.mod _,InW.mod _,InW.mod _,InW.mod _,InW.mod _,InW.mod _,InW.mod _,InW.mod _⟩
def V8(B:Nat)(v:Value)(st:S8)(u:World):Prop:= ∃g cap cur,v= .slice (some ⟨g,0,none⟩) 8 cap∧B≤g∧Row u g 27 cur∧ ∀i,i<8→cur[i]?=some (.int .u32 (st.get i))
theorem S8.In.get{s:S8}(h:s.In)(k:Nat)(hk:k<8):InW (s.get k):=by
 rcases k with _|_|_|_|_|_|_|_|k
 · exact h.a
 · exact h.b
 · exact h.c
 · exact h.d
 · exact h.e
 · exact h.f
 · exact h.g
 · exact h.h
 · omega
theorem V8.mono{B B':Nat}{v:Value}{st:S8}{u:World}(h:V8 B v st u)(hB:B'≤B):V8 B' v st u:=by
 obtain⟨g,cap,cur,e,hg,hr,hc⟩:=h
 exact⟨g,cap,cur,e,by omega,hr,hc⟩
theorem own_of_row{w:World}{g B n:Nat}{xs:List Int}(h:Row w g 5 (arrB n xs))(hl:xs.length=n)(hB:B≤g)(hn:n≤maxLen):OwnB w B (.slice (some ⟨g,0,none⟩) n n) xs:=by
 subst hl
 refine⟨by simp, .inr ⟨g,xs.length,arrB xs.length xs,rfl,hB,h,Nat.le_refl _,hn,by rw[arrB_size _ _ (Nat.le_refl _)];omega,?_⟩⟩
 rw[tL (by rw[Array.length_toList,arrB_size _ _ (Nat.le_refl _)];omega)]
 simp[arrB]
theorem OwnB.up{w:World}{B n c:Nat}{A:Option Addr}{xs:List Int}(h:OwnB w B (.slice A n c) xs):Bytes w w.heap.size A xs:=h.bytes.2
theorem zero_cells:(#[Value.int .u8 0,Value.int .u8 0,Value.int .u8 0,Value.int .u8 0,Value.int .u8 0,Value.int .u8 0,Value.int .u8 0,Value.int .u8 0,Value.int .u8 0,Value.int .u8 0,Value.int .u8 0,Value.int .u8 0,Value.int .u8 0,Value.int .u8 0,Value.int .u8 0,Value.int .u8 0,Value.int .u8 0,Value.int .u8 0,Value.int .u8 0,Value.int .u8 0,Value.int .u8 0,Value.int .u8 0,Value.int .u8 0,Value.int .u8 0,Value.int .u8 0,Value.int .u8 0,Value.int .u8 0,Value.int .u8 0,Value.int .u8 0,Value.int .u8 0,Value.int .u8 0,Value.int .u8 0]:Array Value)=arrB 32 []:=rfl
theorem arr_id{x:List Int}(h:x.length=32):arrB 32 x=(x.map u8v).toArray:=by unfold arrB;rw[h];simp
theorem textT_byte{a b:List Int}(ha: ∀x∈a,0≤x∧x≤255)(hb: ∀x∈b,0≤x∧x≤255): ∀x∈textT a b,0≤x∧x≤255:=by
 intro x hx
 unfold textT at hx
 rcases List.mem_cons.1 hx with h|h
 · omega
 · rcases List.mem_append.1 h with h|h
   · exact ha x h
   · exact hb x h
def OwnF(w:World)(B:Nat)(v:Value)(l:List Bool):Prop:=w.ownsRow B 4 1 v l.length (l.map Value.bool)
theorem OwnF.nil(w:World)(B:Nat):OwnF w B (.slice none 0 0) []:=World.ownsRow_nil _ _ _ _
theorem add_add32(a:Addr)(l j:Nat):(a.add l).add j=a.add (l+j):=by
 unfold Addr.add
 by_cases h:l=0
 · simp[h]
 · by_cases h2:j=0
   · simp[h,h2]
   · simp[h,h2,Nat.add_assoc]
section
variable {a:Act}{dst:Option Tmp}{x l h:Operand}{ty:TypeId}{pos:String}{after:Array Edge}{gd:Option (Nat × Bool)}
end
theorem sumL_byte(xs:List Int): ∀x∈sumL xs,0≤x∧x≤255:=by
 have h: ∀(s:S8)(k:Nat),∀x∈idPre s k,0≤x∧x≤255:=by
  intro s k
  induction k with
  |zero=>intro x hx;cases hx
  |succ k ih=>
   intro x hx
   unfold idPre at hx
   rcases List.mem_append.1 hx with h|h
   · exact ih x h
   · unfold bytes4 at h
     simp at h
     omega
 unfold sumL
 exact h _ _
theorem node_id(a b:List Int):(nodeT a b).length=32∧ ∀x∈nodeT a b,0≤x∧x≤255:=⟨sumL_len _,sumL_byte _⟩
theorem root_id{l:List (List Int)}(h:isIds l):(rootT l).length=32∧ ∀x∈rootT l,0≤x∧x≤255:=by
 by_cases h0:l.length=0
 · rw[List.eq_nil_of_length_eq_zero h0]
   exact⟨sumL_len _,sumL_byte _⟩
 · by_cases h1:l.length=1
   · match l,h1 with
     |[x],_=>exact h x (List.mem_cons_self ..)
   · rw[root_cut (by omega)]
     exact node_id _ _
theorem wpList_load_run{P:Program}{ops:Array Oper}{rest:List Oper}{o:Oper}{a:Act}{w:World}{Q:Exit→Act→World→Prop}{v:Value}(hgd:o.guard=none)(ty:TypeId)(x:Operand)(ho:o.op= .load ty x)(ad:Addr)(hx:a.eval x= .pointer (some ad))
  (hrun:(loadVar ty ad).run P w= .ok v w) (h:wpList P ops Q rest (a.put o.dst v) w):wpList P ops Q (o::rest) a w:=
 wpList_plain hgd fun _ hK=>by
  unfold Oper.wp execOp
  simp only[ho,hx,Instr.loadAt,Instr.sureAddr,Sem.run_bind,Sem.run_pure,Result.andThen_ok,hrun]
  exact hK _ _ h
def OwnI(w:World)(B:Nat)(v:Value)(l:List (List Int)):Prop:=w.ownsRow B 26 32 v l.length (l.flatten.map u8v)
theorem OwnI.nil(w:World)(B:Nat):OwnI w B (.slice none 0 0) []:=World.ownsRow_nil _ _ _ _
theorem OwnI.ids{w:World}{B n c:Nat}{A:Option Addr}{l:List (List Int)}(h:OwnI w B (.slice A n c) l):IdsIn w w.heap.size A l:=by
 intro hp
 have hl:=h.1
 rcases h.2 with ⟨e,e2⟩|⟨g,cap,cur,e,_,hg,_⟩
 · rw[lM,e2]at hl
   omega
 · injection e with e1 e2 e3
   subst e1
   refine⟨_,rfl,?_,fun j v hv=>h.cells (g:=g) rfl j v hv⟩
   exact Row.lt (t:=26) hg
theorem infoIz:(Tryz.prog.info? 26).map (fun i=>(i.zero,i.size,i.bytes))=some (some (.agg (arrB 32 [])),32,32):=by kernel_rfl
theorem OwnI.append{w:World}{B:Nat}{v:Value}{l:List (List Int)}(h:OwnI w B v l){x:List Int}{ad:Addr}(hx:x.length=32)(hc: ∀j,j<32→w.cell? (ad.add j)=some (.int .u8 (x.getD j 0)))(hs:l.length≤1000000)(hB:B≤w.heap.size):
  ∃v' w',(Builtin.append_ #[35,35] 35 #[v, .slice (some ad) 1 1]).run Tryz.prog w= .ok v' w'∧OwnI w' B v' (l++[x])∧w.grownBy w' v.ownBlock∧(v'.ownBlock=v.ownBlock∨v'.ownBlock=some w.heap.size):=by
 cases hq:Tryz.prog.info? 26 with
 |none=>have:=infoIz;rw[hq]at this;cases this
 | some i=>
  have hi:=infoIz
  rw[hq]at hi
  simp only[Option.map_some,Option.some.injEq,Prod.mk.injEq]at hi
  obtain⟨h1,h2,h3⟩:=hi
  obtain⟨v',w',hrun,hown',hg,_,ho⟩:=run_append_own_at (P:=Tryz.prog) w B 35 35 26 i (.agg (arrB 32 [])) 32 32 underlying35 hq h1 h2 h3 (arrB_size _ _ (by simp)) (by decide) v l.length (l.flatten.map u8v) h
   ad 1 1 (x.map u8v) (by simp[hx]) (fun j u hu=>by
    have hj:j<x.length:=by
     rcases Nat.lt_or_ge j x.length with h'|h'
     · exact h'
     · rw[gN (by simpa using h')]at hu
       cases hu
    rw[hc j (by omega)]
    rw[List.getElem?_map,gE hj]at hu
    simp only[Option.map_some]at hu
    rw[←hu]
    simp[u8v,List.getD,gE hj]) (by intro u hu;obtain⟨z,_,rfl⟩:=List.mem_map.1 hu;rfl) (by unfold maxLen;omega) (by omega) hB
  refine⟨v',w',hrun,?_,hg,ho⟩
  unfold OwnI
  rw[lA,List.flatten_append,List.map_append]
  simpa using hown'
def FreshI(l:List (List Int))(x:Value)(N:Boxes):Prop:=
  (∃g cap cur,x= .slice (some ⟨g,0,none⟩) l.length cap∧N=[(g,oc cur 26)]∧l.length≤cap∧cap≤maxLen∧cur.size=cap*32∧cur.toList.take (l.length*32)=l.flatten.map u8v)∨
  (x= .slice none 0 0∧N=[]∧l=[])
theorem OwnI.fresh{w:World}{B:Nat}{v:Value}{l:List (List Int)}(h:OwnI w B v l): ∃N,FreshI l v N∧ ∀y∈N,B≤y.1∧w.heap[y.1]?=some y.2∧v.ownBlock=some y.1:=by
 rcases h.2 with ⟨e,e0⟩|⟨g,cap,cur,rfl,h1,h2,h3,h4,h5,h6⟩
 · exact⟨[], .inr ⟨e,rfl,List.eq_nil_of_length_eq_zero e0⟩,fun y hy=>by cases hy⟩
 · refine⟨_, .inl ⟨g,cap,cur,rfl,rfl,h3,h4,h5,h6⟩,fun y hy=>?_⟩
   cases mS.1 hy
   exact⟨h1,h2,rfl⟩
theorem FreshI.own{w:World}{B:Nat}{v:Value}{l:List (List Int)}{N:Boxes}(h:FreshI l v N)(hl:isIds l)(hN: ∀y∈N,B≤y.1∧w.heap[y.1]?=some y.2):OwnI w B v l:=by
 refine⟨by rw[lM];exact hl.flat_len,?_⟩
 rcases h with ⟨g,cap,cur,rfl,rfl,h3⟩|⟨rfl,rfl,rfl⟩
 · obtain⟨k1,k2⟩:=hN _ (mS.2 rfl)
   exact .inr ⟨g,cap,cur,rfl,k1,k2,h3⟩
 · exact .inl ⟨rfl,rfl⟩
theorem FreshI.full{v:Value}{l:List (List Int)}{N:Boxes}(h:FreshI l v N)(hp:0<l.length): ∃g cap cur,v= .slice (some ⟨g,0,none⟩) l.length cap∧N=[(g,oc cur 26)]∧l.length≤cap∧cap≤maxLen∧cur.size=cap*32∧cur.toList.take (l.length*32)=l.flatten.map u8v:=by
 rcases h with h|⟨_,_,rfl⟩
 · exact h
 · cases hp
theorem FreshI.block{v:Value}{l:List (List Int)}{N:Boxes}(h:FreshI l v N): ∀g,v.ownBlock=some g→ ∃o,(g,o)∈N:=by
 intro g hg
 rcases h with ⟨g',cap,cur,rfl,rfl,h3⟩|⟨rfl,rfl,rfl⟩
 · cases hg
   exact⟨_,mS.2 rfl⟩
 · cases hg
theorem callsI_fresh{f:FuncId}{args:Array Value}{u:World}{l:List (List Int)}(h:Calls Tryz.prog f args u fun e w'=>(∃v,e= .returned v∧OwnI w' u.heap.size v l)∧Below u.heap.size u w'):
  Calls Tryz.prog f args u fun e w''=> ∃x N,e= .returned x∧FreshI l x N∧Below u.heap.size u w''∧ ∀y∈N,u.heap.size≤y.1∧w''.heap[y.1]?=some y.2:=
 h.mono fun e w''⟨⟨v,he,ho⟩,hb⟩=>by
  obtain⟨N,hN,hm⟩:=ho.fresh
  exact⟨v,N,he,hN,hb,fun y hy=>⟨(hm y hy).1,(hm y hy).2.1⟩⟩
def BuiltI(r:List Int)(v:Value)(N:Boxes):Prop:= ∃g,v= .slice (some ⟨g,0,none⟩) 1 1∧N=[(g,oc (arrB 32 r) 26)]
theorem run_buildI(r:List Int)(hr:r.length=32)(u:World):(Instr.buildSlice 35 1 #[(0, .agg (arrB 32 r))]).run Tryz.prog u= .ok (.slice (some ⟨u.heap.size,0,none⟩) 1 1) (u.alloc (.cells (arrB 32 r) 26)):=by
 cases hq:Tryz.prog.info? 26 with
 |none=>have:=infoIz;rw[hq]at this;cases this
 |some i=>
  have hi:=infoIz
  rw[hq]at hi
  simp only[Option.map_some,Option.some.injEq,Prod.mk.injEq]at hi
  obtain⟨h1,h2,h3⟩:=hi
  refine run_buildSlice u 35 26 1 _ (arrB 32 r) i (.agg (arrB 32 [])) underlying35 hq h1 (by omega) (by omega) ?_
  have hsz:(Value.agg (arrB 32 r)).cells.size=32:=arrB_size _ _ (by omega)
  rw[h2]
  have hf:=Great.fill_whole (s:=32) (by decide) [.agg (arrB 32 r)] ((Array.range (1*32)).map ((Value.agg (arrB 32 [])).cells[· % (Value.agg (arrB 32 [])).cells.size]!)) (by intro v hv;cases mS.1 hv;exact hsz) (by simp)
  simpa [Value.cells] using hf
theorem FAt_buildI{r:List Int}(hr:r.length=32){a:Act}{dst:Option Tmp}{x:Operand}{ty:TypeId}{pos:String}{after:Array Edge}{gd:Option (Nat × Bool)}(hx:a.eval x=idv r)(u:World):
  FAt Tryz.prog ⟨dst, .buildSlice 35 1 #[(0,x)],ty,pos,after,gd⟩ a (BuiltI r) u:=by
 unfold FAt execOp
 unfold idv at hx
 simp only[List.map_toArray,List.map_cons,List.map_nil,hx,Sem.run_bind,Sem.run_pure,run_buildI r hr u,Result.andThen_ok]
 refine⟨(Below.refl _ _).alloc (Nat.le_refl _) _,_,⟨_,rfl,rfl⟩,fun y hy=>?_⟩
 cases mS.1 hy
 exact⟨Nat.le_refl _,heap_alloc_new u _⟩
def GrownI(w0:World)(l:List (List Int))(M0:Boxes)(v:Value)(M':Boxes):Prop:= ∃N,M'=N++M0∧FreshI l v N∧freshN w0 N M0
theorem appI_op{w0 u:World}{M:Boxes}(M0:Boxes){N:Boxes}{l:List (List Int)}{v:Value}{x:List Int}{g:Nat}{t:TypeId}{a:Act}{dst:Option Tmp}{y z:Operand}{pos:String}{after:Array Edge}{gd:Option (Nat × Bool)}
   (hu:EnvX w0 u M) (hl:isIds l) (hx:x.length=32) (hF:FreshI l v N) (hN: ∀y∈N,y∈M∧w0.heap.size≤y.1) (hg:(g,oc (arrB 32 x) t)∈M) (hM0: ∀z∈M0,z∈M∧ ∀y∈N,z.1≠y.1) (hs:l.length≤1000000)
   (hy:a.eval y=v) (hz:a.eval z= .slice (some ⟨g,0,none⟩) 1 1):
   ∃v' u' M',(execOp a.eval ⟨dst, .call {callee:= .builtin .append,args:= #[y,z],argTypes:= #[35,35]},35,pos,after,gd⟩).run Tryz.prog u= .ok (.value v') u'∧EnvX w0 u' M'∧GrownI w0 (l++[x]) M0 v' M':=by
 have hown:OwnI u w0.heap.size v l:=hF.own hl (fun y hy=>⟨(hN y hy).2,hu.box _ _ (hN y hy).1⟩)
 have hrow:Row u g t (arrB 32 x):=hu.row hg
 have hcell: ∀j,j<32→u.cell? ((⟨g,0,none⟩:Addr).add j)=some (.int .u8 (x.getD j 0)):=by
   intro j hj
   rw[Addr.add_mid,Nat.zero_add]
   have hj':j<x.length:=by omega
   rw[hrow.cell]
   simp[arrB,hx,hj',u8v,gE hj']
 obtain⟨v',u',hrun,hown',hgr,hob⟩:=hown.append hx hcell hs hu.bel.size
 obtain⟨N',hF',hN'⟩:=hown'.fresh
 refine⟨v',u',N'++M0,?_,?_,N',rfl,hF',?_⟩
 · unfold execOp
   simp only[resolve,invoke,builtin,Sem.run_bind,Sem.run_pure,Result.andThen_ok,List.map_toArray,List.map_cons,List.map_nil,hy,hz,hrun]
 · have hbel:Below w0.heap.size u u':=below_of_grown hgr (fun r hr=>(hown.lt r hr).1) hu.bel.size
   refine⟨hu.bel.trans hbel,fun g' o hm=>?_⟩
   rcases List.mem_append.1 hm with e|e
   · exact(hN' _ e).2.1
   · have hin:=hM0 _ e
     rw[hgr.block g' (hu.lt hin.1) (fun e2=>by
      obtain⟨o2,ho2⟩:=hF.block g' e2.symm
      exact hin.2 _ ho2 rfl)]
     exact hu.box _ _ hin.1
 · intro y hy
   refine⟨(hN' y hy).1,fun z hz e=>?_⟩
   have hb:=(hN' y hy).2.2
   have hin:=hM0 z hz
   rcases hob with h|h
   · obtain⟨o2,ho2⟩:=hF.block y.1 (h.symm.trans hb)
     exact hin.2 _ ho2 e
   · have h1:=hu.lt (g:=z.1) (o:=z.2) hin.1
     have h2:u.heap.size=y.1:=Option.some.inj (h.symm.trans hb)
     omega
section
variable {a:Act}{dst:Option Tmp}{x:Operand}{ty:TypeId}{pos:String}{after:Array Edge}{gd:Option (Nat × Bool)}
theorem new_id(a:Act):NewAt Tryz.prog ⟨dst, .alloc 26,ty,pos,after,gd⟩ a (.cells (arrB 32 []) 26 (0,0)):=fun u=>by
 rw[←zero_cells]
 go_simp
theorem load_run_op{ad:Addr}{v:Value}(u:World)(hr:(loadVar 26 ad).run Tryz.prog u= .ok v u)(hx:a.eval x= .pointer (some ad)):
  (execOp a.eval ⟨dst, .load 26 x,ty,pos,after,gd⟩).run Tryz.prog u= .ok (.value v) u:=by
 unfold execOp
 simp only[hx,Instr.loadAt,Instr.sureAddr,Sem.run_bind,Sem.run_pure,Result.andThen_ok,hr]
theorem eql_id_op{y:Operand}{xs ys:List Int}(hxl:xs.length=32)(hyl:ys.length=32)(u:World)(hx:a.eval x=idv xs)(hy:a.eval y=idv ys):
  (execOp a.eval ⟨dst, .binOp .eql 26 x y 26,ty,pos,after,gd⟩).run Tryz.prog u= .ok (.value (.bool (eqL xs ys))) u:=by
 unfold idv at hx hy
 have h:(Op.equalIn 10000 26 (.agg (arrB 32 xs)) (.agg (arrB 32 ys))).run Tryz.prog u= .ok (eqL xs ys) u:=run_equal_id xs ys hxl hyl u
 unfold execOp
 simp only[hx,hy]
 go_simp
theorem neq_id_op{y:Operand}{xs ys:List Int}(hxl:xs.length=32)(hyl:ys.length=32)(u:World)(hx:a.eval x=idv xs)(hy:a.eval y=idv ys):
  (execOp a.eval ⟨dst, .binOp .neq 26 x y 26,ty,pos,after,gd⟩).run Tryz.prog u= .ok (.value (.bool (!eqL xs ys))) u:=by
 unfold idv at hx hy
 have h:(Op.equalIn 10000 26 (.agg (arrB 32 xs)) (.agg (arrB 32 ys))).run Tryz.prog u= .ok (eqL xs ys) u:=run_equal_id xs ys hxl hyl u
 unfold execOp
 simp only[hx,hy]
 go_simp
theorem eqlb_op{y:Operand}{xs ys:List Int}{b:Bool}(hxl:xs.length=32)(hyl:ys.length=32)(hb:eqL xs ys=b)(u:World)(hx:a.eval x=idv xs)(hy:a.eval y=idv ys):
  (execOp a.eval ⟨dst, .binOp .eql 26 x y 26,ty,pos,after,gd⟩).run Tryz.prog u= .ok (.value (.bool b)) u:=by
 rw[←hb]
 exact eql_id_op hxl hyl u hx hy
theorem neqb_op{y:Operand}{xs ys:List Int}{b:Bool}(hxl:xs.length=32)(hyl:ys.length=32)(hb:(!eqL xs ys)=b)(u:World)(hx:a.eval x=idv xs)(hy:a.eval y=idv ys):
  (execOp a.eval ⟨dst, .binOp .neq 26 x y 26,ty,pos,after,gd⟩).run Tryz.prog u= .ok (.value (.bool b)) u:=by
 rw[←hb]
 exact neq_id_op hxl hyl u hx hy
theorem box_load{w0 u:World}{M:Boxes}{g:Nat}{t:TypeId}{r:List Int}(hu:EnvC w0 M u)(hm:(g,oc (arrB 32 r) t)∈M)(hr:r.length=32):(loadVar 26 ⟨g,0,none⟩).run Tryz.prog u= .ok (idv r) u:=
 run_loadId hr fun j hj=>by
  have hj':j<r.length:=by omega
  rw[Addr.add_mid,Nat.zero_add,Row.cell (EnvX.row hu hm)]
  simp[arrB,hr,hj',u8v,gE hj']
end
theorem OwnF.get{w:World}{B n c:Nat}{A:Option Addr}{s:List Bool}(h:OwnF w B (.slice A n c) s):s.length=n∧ ∀k,k<n→ ∃g,A=some ⟨g,0,none⟩∧g<w.heap.size∧w.cell? ⟨g,k,none⟩=some (.bool (s.getD k true)):=by
 rcases h.2 with ⟨e,e2⟩|⟨g,cap,cur,e,_,hg,_⟩
 · injection e with e1 e3 e4
   exact⟨by omega,fun k hk=>by omega⟩
 · injection e with e1 e3 e4
   refine⟨e3.symm,fun k hk=>⟨g,e1,Row.lt (t:=4) hg,?_⟩⟩
   have hk':k<s.length:=by omega
   have:=h.cells (g:=g) (by rw[e1];rfl) k (.bool (s.getD k true)) (by simp[List.getD,gE hk'])
   rwa[Addr.add_mid,Nat.zero_add]at this
theorem ids_step{l q:List (List Int)}{k:Nat}(h:l.take k=q.take k)(h1:k<l.length)(h2:k<q.length)(e:l.getD k []=q.getD k []):l.take (k+1)=q.take (k+1):=by
 rw[List.take_add_one,List.take_add_one,h,gE h1,gE h2]
 rw[gD,gD,gE h1,gE h2]at e
 simp only[Option.getD_some]at e
 rw[e]
theorem IdsIn.loads{w:World}{A:Option Addr}{l:List (List Int)}(h:IdsIn w w.heap.size A l)(hl:isIds l){k:Nat}(hk:k<l.length): ∃ad,A=some ad∧ ∀u,EnvX w u []→(loadVar 26 (ad.add (k*32))).run Tryz.prog u= .ok (idv (l.getD k [])) u:=by
 obtain⟨ad,e,_⟩:=h.load hl hk
 refine⟨ad,e,fun u hu=>?_⟩
 obtain⟨ad2,e2,h2⟩:=(h.up (EnvX.bel hu)).load hl hk
 rw[e]at e2
 cases e2
 exact h2
section
variable {a:Act}{dst:Option Tmp}{x l h:Operand}{ty:TypeId}{pos:String}{after:Array Edge}{gd:Option (Nat × Bool)}
end
theorem box_bytes{w0 u:World}{M:Boxes}{g cap:Nat}{cur:Array Value}{xs:List Int}(hu:EnvC w0 M u)(hm:(g,oc cur 5)∈M)(h:xs.length≤cap∧cap≤maxLen∧cur.size=cap*1∧cur.toList.take (xs.length*1)=xs.map u8v):Bytes u u.heap.size (some ⟨g,0,none⟩) xs:=by
 have:OwnB u 0 (.slice (some ⟨g,0,none⟩) xs.length cap) xs:=⟨by simp, .inr ⟨g,cap,cur,rfl,Nat.zero_le _,EnvX.box hu g _ hm,h.1,h.2.1,h.2.2.1,h.2.2.2⟩⟩
 exact this.bytes.2
def isId(x:List Int):Prop:=x.length=32∧ ∀b∈x,0≤b∧b≤255
def I64(i:Int):Prop:= -9223372036854775808≤i∧i≤9223372036854775807
def z32:List Int:=List.replicate 32 0
def isB(l:List Int):Prop:= ∀x∈l,0≤x∧x≤255
theorem isB_nil:isB []:=fun _ h=>by cases h
theorem isB_append{a b:List Int}:isB (a++b) ↔isB a∧isB b:=by
 unfold isB
 constructor
 · intro h
   exact⟨fun x hx=>h x (mL hx),fun x hx=>h x (mR hx)⟩
 · rintro⟨h1,h2⟩ x hx
   rcases List.mem_append.1 hx with h|h
   · exact h1 x h
   · exact h2 x h
def putL(n:Nat):Nat→List Int
  |0=>[]
  |k+1=>putL (n/256) k++[((n % 256:Nat):Int)]
theorem putL_len(n k:Nat):(putL n k).length=k:=by
 induction k generalizing n with
 |zero=>rfl
 |succ k ih=>unfold putL;rw[lA,ih];rfl
theorem putL_byte(n k:Nat):isB (putL n k):=by
 induction k generalizing n with
 |zero=>exact isB_nil
 |succ k ih=>
  unfold putL
  refine isB_append.2 ⟨ih _,fun x hx=>?_⟩
  cases mS.1 hx
  omega
theorem maysize_any(s:Int)(w:World):
   Calls Tryz.prog 172 #[.int .i64 s] w fun e w'=>e= .returned (.bool (decide (0≤s∧s≤8)))∧w=w':=by
 by_cases h0:0≤s
 · by_cases h1:s≤8
   · go_enter func172,ntmps172
     go_wp2
     go_ret
     exact⟨by simp[h0,h1],rfl⟩
   · go_enter func172,ntmps172
     go_wp2
     go_ret
     exact⟨by simp[h1],rfl⟩
 · go_enter func172,ntmps172
   go_wp2
   go_ret
   exact⟨by simp;omega,rfl⟩
theorem putL_head(n i:Nat):putL n (i+1)=((n/256^i % 256:Nat):Int)::putL n i:=by
 induction i generalizing n with
 |zero=>simp[putL]
 |succ i ih=>
  show putL (n/256) (i+1)++[((n % 256:Nat):Int)]=_
  rw[ih,List.cons_append,Nat.div_div_eq_div_mul,Nat.pow_succ,Nat.mul_comm (256^i) 256]
  rfl
theorem put_set(n k i:Nat)(h:i<k):(arrB k (List.replicate (k- i) 0++putL n i)).setIfInBounds (k- 1- i) (.int .u8 ((n/256^i % 256:Nat):Int))=arrB k (List.replicate (k- (i+1)) 0++putL n (i+1)):=by
 have hl: ∀j,j≤k→(List.replicate (k- j) (0:Int)++putL n j).length=k:=fun j hj=>by rw[lA,List.length_replicate,putL_len];omega
 obtain⟨d,rfl⟩: ∃d,k=d+1+i:=⟨k- 1- i,by omega⟩
 rw[show d+1+i- i=d+1 by omega,show d+1+i- 1- i=d by omega,show d+1+i- (i+1)=d by omega,putL_head,List.replicate_succ',aA]
 have hl1:=hl i (by omega)
 have hl2:=hl (i+1) (by omega)
 rw[show d+1+i- i=d+1 by omega,List.replicate_succ',aA]at hl1
 rw[show d+1+i- (i+1)=d by omega,putL_head]at hl2
 apply arrB_ext
 · omega
 · rw[Array.size_setIfInBounds,arrB_size _ _ (by omega)]
 · intro t ht
   rw[Array.getElem?_setIfInBounds,arrB_size _ _ (by omega)]
   by_cases e:d=t
   · subst e
     rw[if_pos rfl,if_pos (by omega)]
     simp[List.getD]
   · rw[if_neg e,arrB_get _ _ _ (by omega) ht]
     congr 2
     by_cases hlt:t<d
     · simp[List.getD,List.getElem?_append_left,hlt]
     · obtain⟨s,rfl⟩: ∃s,t=d+(s+1):=⟨t- d- 1,by omega⟩
       simp[List.getD,List.getElem?_append_right]
theorem put_any(n k:Nat)(w:World)(hn:n<18446744073709551616)(hk:k≤8):
  Calls Tryz.prog 113 #[.int .u64 n, .int .i64 k] w fun e w'=>(∃v,e= .returned v∧OwnB w' w.heap.size v (putL n k))∧Below w.heap.size w w':=by
 have k8:(k:Int)≤8:=by omega
 have d0:(decide (0≤(k:Int)∧(k:Int)≤8))=true:=by simp;omega
 go_enter func113,ntmps113
 go_wp2_with fail
 refine(maysize_any (k:Int) w).mono ?_
 rintro e w1 ⟨rfl,rfl⟩
 rw[d0]
 go_wp2_with fail
 rw[make_bytes k (by omega)]
 go_wp2_with fail
 go_loopw [13] (fun i u=> ∃j:Nat,j≤k∧i= .int .i64 j∧Below w.heap.size w u∧Hid (Row u w.heap.size 5 (arrB k (List.replicate (k- j) 0++putL n j)))) (fun i _=>k- (intOf i).toNat)
 case atStart=>
  refine⟨0,by omega,rfl,by go_grown,?_⟩
  have e:arrB k (List.replicate (k- 0) 0++putL n 0)=arrB k []:=by simp[putL,arrB]
  rw[e]
  exact Row.new w 5 _
 case round=>
  obtain⟨j,hj,rfl,hbl,hrows⟩:=hrel
  have r0:=hrows.out
  by_cases hlt:j<k
  · have hlt2:(j:Int)<(k:Int):=by omega
    have hj8:(j:Int)<8:=by omega
    have hj0:(0:Int)≤(j:Int):=by omega
    have hset:=put_set n k j hlt
    have e0:=(r0.cell (k- 1- j)).trans (arrB_get k _ (k- 1- j) (by rw[lA,List.length_replicate,putL_len];omega) (by omega))
    have f0:=r0.frozen (k- 1- j)
    have hv:Hid ((n:Int) /2^ (8*j) % 256=((n/256^j % 256:Nat):Int)):=by
     show _=_
     rw[show (256:Nat)=2^8 from rfl,←Nat.pow_mul]
     simp
    have HS:=hD hset
    have R0:=hD r0
    clear hset r0 hrows
    generalize (List.replicate (k- j) 0++putL n j).getD (k- 1- j) 0=z at *
    generalize arrB k (List.replicate (k- j) 0++putL n j)=cs at *
    go_wp2_with fail
    go_roundw
    case rel=>
     refine⟨j+1,by omega,by go_num,hbl.setCell (by simp) _,?_⟩
     rw[←HS.out,←hv.out]
     exact R0.out.put _ _
    case measure=>simp[intOf];omega
  · obtain rfl:j=k:=by omega
    have r1:Row wr w.heap.size 5 (arrB j (putL n j)):=by simpa using r0
    go_wp2
    go_ret
    exact⟨⟨_,rfl,own_of_row r1 (putL_len _ _) (Nat.le_refl _) (by unfold maxLen;omega)⟩,hbl⟩
structure InR where
  tx:List Int
  i:Int
deriving DecidableEq
structure OutR where
  v:Int
  tw:Int
deriving DecidableEq
structure TxR where
  ins:List InR
  outs:List OutR
deriving DecidableEq
def noTx:TxR:=⟨[],[]⟩
def okIn(x:InR):Prop:=isId x.tx∧I64 x.i
def okOut(o:OutR):Prop:=I64 o.v∧I64 o.tw
def okX(t:TxR):Prop:=(∀x∈t.ins,okIn x)∧ ∀o∈t.outs,okOut o
def mayIn(x:InR):Bool:=decide (0≤x.i∧x.i≤2)
def mayOut(o:OutR):Bool:=decide (1≤o.v∧o.v≤1099511627776∧0≤o.tw∧o.tw≤255)
def mayX(t:TxR):Bool:=decide (t.ins.length≤3∧1≤t.outs.length∧t.outs.length≤3∧(∀x∈t.ins,mayIn x=true)∧t.ins.Nodup∧ ∀o∈t.outs,mayOut o=true)
def sameX(a b:TxR):Bool:=decide (a=b)
def inB(x:InR):List Int:=x.tx++[x.i]
def outB(o:OutR):List Int:=putL o.v.toNat 6++[o.tw]
def bodyX(t:TxR):List Int:=[(t.ins.length:Int)]++((t.ins.map inB).flatten++((t.outs.length:Int)::(t.outs.map outB).flatten))
def putX(t:TxR):List Int × Bool:=if mayX t then (bodyX t,true)else ([],false)
def idX(t:TxR):List Int:=if mayX t then sumL (6::bodyX t)else z32
def idsX(l:List TxR):List (List Int):=l.map idX
theorem mayX_iff{t:TxR}:mayX t=true↔(t.ins.length≤3∧1≤t.outs.length∧t.outs.length≤3∧(∀x∈t.ins,0≤x.i∧x.i≤2)∧t.ins.Nodup∧ ∀o∈t.outs,1≤o.v∧o.v≤1099511627776∧0≤o.tw∧o.tw≤255):=by
 unfold mayX mayIn mayOut
 simp only[decide_eq_true_eq]
theorem idX_id(t:TxR):isId (idX t):=by
 unfold idX
 split
 · exact⟨sumL_len _,sumL_byte _⟩
 · exact⟨rfl,fun y hy=>by rw[List.eq_of_mem_replicate hy];decide⟩
theorem idsX_ids(l:List TxR):isIds (idsX l):=fun x hx=>by
 obtain⟨t,_,rfl⟩:=List.mem_map.1 hx
 exact idX_id t
theorem insB_len{l:List InR}(h: ∀x∈l,okIn x): ∀r∈l.map inB,r.length=33:=fun r hr=>by
 obtain⟨x,hx,rfl⟩:=List.mem_map.1 hr
 unfold inB
 rw[lA,(h x hx).1.1]
 rfl
theorem outsB_len(l:List OutR): ∀r∈l.map outB,r.length=7:=fun r hr=>by
 obtain⟨x,hx,rfl⟩:=List.mem_map.1 hr
 unfold outB
 rw[lA,putL_len]
 rfl
theorem flat_len{z:Nat}: ∀{L:List (List Int)},(∀r∈L,r.length=z)→L.flatten.length=z*L.length
 |[],_=>by simp
 |x::L,h=>by
  rw[List.flatten_cons,lA,h x (List.mem_cons_self ..),flat_len (L:=L) (fun r hr=>h r (mT hr)),List.length_cons,Nat.mul_succ]
  omega
theorem bodyX_len{t:TxR}(h:okX t):(bodyX t).length=2+33*t.ins.length+7*t.outs.length:=by
 have h1:=flat_len (insB_len h.1)
 have h2:=flat_len (outsB_len t.outs)
 rw[lM]at h1 h2
 unfold bodyX
 simp only[lA,List.length_cons,List.length_nil,h1,h2]
 omega
theorem bodyX_byte{t:TxR}(h:okX t)(hm:mayX t=true):isB (bodyX t):=by
 obtain⟨h1,h2,h3,h4,_,h5⟩:=mayX_iff.1 hm
 unfold bodyX
 rw[isB_append,isB_append]
 refine⟨fun y hy=>?_,fun y hy=>?_,fun y hy=>?_⟩
 · cases mS.1 hy;omega
 · obtain⟨r,hr,hy⟩:=List.mem_flatten.1 hy
   obtain⟨x,hx,rfl⟩:=List.mem_map.1 hr
   rcases List.mem_append.1 hy with e|e
   · exact(h.1 x hx).1.2 y e
   · cases mS.1 e
     have:=h4 x hx
     omega
 · rcases List.mem_cons.1 hy with e|e
   · omega
   · obtain⟨r,hr,hy⟩:=List.mem_flatten.1 e
     obtain⟨x,hx,rfl⟩:=List.mem_map.1 hr
     rcases List.mem_append.1 hy with e|e
     · exact putL_byte _ _ y e
     · cases mS.1 e
       have:=h5 x hx
       omega
def adc(x y c:Int):Int:=(x+y+c) % 18446744073709551616
def adk(x y c:Int):Int:=(x+y+c) /18446744073709551616
def sbc(x y c:Int):Int:=(x- y- c) % 18446744073709551616
def sbk(x y c:Int):Int:=if x<y+c then 1 else 0
theorem add64(x y c:Int)(hx:0≤x)(hy:0≤y)(hc0:0≤c)(hc:c≤1)(w:World):(callFunc 201 #[.int .u64 x, .int .u64 y, .int .u64 c]).run Tryz.prog w=
  .ok (.value (.tuple #[.int .u64 (adc x y c), .int .u64 (adk x y c)])) w:=by
 rw[run_callFunc_extern func201 (by kernel_rfl) (by kernel_rfl) (by kernel_rfl) (e:=add64Entry) (by kernel_rfl),run_add64 x y c hx hy hc0 hc]
 rfl
theorem sub64_nat(x y c:Nat)(hc:c≤1)(w:World):(callFunc 206 #[.int .u64 x, .int .u64 y, .int .u64 c]).run Tryz.prog w=
  .ok (.value (.tuple #[.int .u64 (((x+18446744073709551616- y- c) % 18446744073709551616:Nat):Int), .int .u64 ((if x<y+c then 1 else 0:Nat):Int)])) w:=by
 rw[run_callFunc_extern func206 (by kernel_rfl) (by kernel_rfl) (by kernel_rfl) (e:=(Extern.MathBitsCarry.rows[1]'(by decide)).2) (by kernel_rfl)]
 have:c=0∨c=1:=by omega
 rcases this with rfl|rfl<;>rfl
theorem sub64(x y c:Int)(hx:0≤x)(hy:0≤y)(hy':y<18446744073709551616)(hc0:0≤c)(hc:c≤1)(w:World):(callFunc 206 #[.int .u64 x, .int .u64 y, .int .u64 c]).run Tryz.prog w=
  .ok (.value (.tuple #[.int .u64 (sbc x y c), .int .u64 (sbk x y c)])) w:=by
 obtain⟨x,rfl⟩:=Int.eq_ofNat_of_zero_le hx
 obtain⟨y,rfl⟩:=Int.eq_ofNat_of_zero_le hy
 obtain⟨c,rfl⟩:=Int.eq_ofNat_of_zero_le hc0
 have e1:(((x+18446744073709551616- y- c) % 18446744073709551616:Nat):Int)=sbc x y c:=by unfold sbc;omega
 have e2:((if x<y+c then 1 else 0:Nat):Int)=sbk x y c:=by unfold sbk;split<;>split<;>omega
 rw[←e1,←e2]
 exact sub64_nat x y c (by omega) w
theorem ofbyte_any(i:Int)(w:World)(h0:0≤i)(h1:i<32):
  Calls Tryz.prog 170 #[.int .i64 i] w fun e w'=>e= .returned (.int .i64 (3- i/8))∧w=w':=by
 go_enter func170,ntmps170
 go_wp2
 go_ret
 exact⟨rfl,rfl⟩
theorem part_any(xs:List Int)(i:Int)(w:World)(hx:xs.length=4)(h0:0≤i)(h1:i<4):
  Calls Tryz.prog 176 #[.agg (arrW 4 xs), .int .i64 i] w fun e w'=>e= .returned (.int .u64 (xs.getD i.toNat 0))∧w'=w.alloc (.cells (arrW 4 xs) 32):=by
 have e0:(w.alloc (.cells (arrW 4 xs) 32)).cell? ⟨w.heap.size,i.toNat,none⟩=some (.int .u64 (xs.getD i.toNat 0)):=((Row.new w 32 _).cell i.toNat).trans (arrW_get 4 _ _ (by omega) (by omega))
 have HX:=hD hx
 clear hx
 go_enter func176,ntmps176
 go_wp2
 go_ret
 exact⟨rfl,rfl⟩
theorem part_out(xs:List Int)(i:Int)(w:World)(h:i<0∨4≤i):
   Calls Tryz.prog 176 #[.agg (arrW 4 xs), .int .i64 i] w fun e w'=>e= .returned (.int .u64 0)∧w'=w.alloc (.cells (arrW 4 xs) 32):=by
 by_cases h0:i<0
 · clear h
   go_enter func176,ntmps176
   go_wp2
   go_ret
   exact⟨rfl,rfl⟩
 · have h1:4≤i:=by omega
   have h2:0≤i:=by omega
   clear h h0
   go_enter func176,ntmps176
   go_wp2
   go_ret
   exact⟨rfl,rfl⟩
theorem bit_any(xs:List Int)(i:Int)(w:World)(hx:xs.length=4)(h0:0≤i)(h1:i<256):
  Calls Tryz.prog 218 #[.agg (arrW 4 xs), .int .i64 i] w fun e w'=>e= .returned (.int .u64 (bits .and .u64 (xs.getD (i/64).toNat 0/2^ (i % 64).toNat) 1))∧w'=w.alloc (.cells (arrW 4 xs) 32):=by
 have e0:(w.alloc (.cells (arrW 4 xs) 32)).cell? ⟨w.heap.size,(i/64).toNat,none⟩=some (.int .u64 (xs.getD (i/64).toNat 0)):=((Row.new w 32 _).cell _).trans (arrW_get 4 _ _ (by omega) (by omega))
 have q0:0≤i/64:=by omega
 have q1:i/64<4:=by omega
 have q2:0≤i % 64:=by omega
 have q3:i % 64<64:=by omega
 have HX:=hD hx
 clear hx
 go_enter func218,ntmps218
 go_wp2
 go_ret
 exact⟨rfl,rfl⟩
theorem of_any(n:Int)(w:World):
  Rz 119 #[.int .u64 n] w (.agg (arrW 4 [n,0,0,0])):=by
 unfold Rz
 go_enter func119,ntmps119
 go_wp2
 go_returns
 exact⟨rfl,by go_grown⟩
attribute [local go_sem ↓] Go.wp_at_zero Go.wp_at_succ
def addC(xs ys:List Int):Nat→Int
  |0=>0
  |k+1=>adk (xs.getD k 0) (ys.getD k 0) (addC xs ys k)
def addL(xs ys:List Int):Nat→List Int
  |0=>[]
  |k+1=>addL xs ys k++[adc (xs.getD k 0) (ys.getD k 0) (addC xs ys k)]
theorem addL_len(xs ys:List Int)(k:Nat):(addL xs ys k).length=k:=by
 induction k with
 |zero=>rfl
 |succ k ih=>simp[addL,ih]
def subC(xs ys:List Int):Nat→Int
  |0=>0
  |k+1=>sbk (xs.getD k 0) (ys.getD k 0) (subC xs ys k)
def subL(xs ys:List Int):Nat→List Int
  |0=>[]
  |k+1=>subL xs ys k++[sbc (xs.getD k 0) (ys.getD k 0) (subC xs ys k)]
theorem subL_len(xs ys:List Int)(k:Nat):(subL xs ys k).length=k:=by
 induction k with
 |zero=>rfl
 |succ k ih=>simp[subL,ih]
def Words(xs:List Int):Prop:= ∀k,0≤xs.getD k 0∧xs.getD k 0<18446744073709551616
theorem addC_bit(xs ys:List Int)(hx:Words xs)(hy:Words ys)(k:Nat):0≤addC xs ys k∧addC xs ys k≤1:=by
 induction k with
 |zero=>simp[addC]
 |succ k ih=>
  have:=hx k
  have:=hy k
  simp only[addC,adk]
  omega
theorem subC_bit(xs ys:List Int)(k:Nat):0≤subC xs ys k∧subC xs ys k≤1:=by
 cases k with
 |zero=>simp[subC]
 |succ k=>
  simp only[subC,sbk]
  split<;>omega
theorem infoW(cs:Array Value)(h:cs.size=4):(Tryz.prog.info? 32).map (·.size)=some cs.size:=by rw[h];kernel_rfl
theorem addw_any(xs ys:List Int)(w:World)(hx:xs.length=4)(hy:ys.length=4)(bx:Words xs)(bY:Words ys):
  Rz 165 #[.agg (arrW 4 xs), .agg (arrW 4 ys)] w (.tuple #[.agg (arrW 4 (addL xs ys 4)), .bool (addC xs ys 4==0)]):=by
 unfold Rz
 have HX:=hD hx
 have HY:=hD hy
 clear hx hy
 go_enter func165,ntmps165
 go_wp2_with fail
 go_loopw [7,9] (fun c i u=> ∃k:Nat,k≤4∧i= .int .i64 k∧c= .int .u64 (addC xs ys k)∧Below w.heap.size w u∧Hid (Row u w.heap.size 32 (arrW 4 xs)∧Row u (w.heap.size+1) 32 (arrW 4 ys)∧Row u (w.heap.size+1+1) 32 (arrW 4 [])∧Row u (w.heap.size+1+1+1) 32 (arrW 4 (addL xs ys k)))) (fun _ i _=>4- (intOf i).toNat)
 case atStart=>exact⟨0,by omega,rfl,rfl,by go_grown,(((Row.new w 32 _).alloc _).alloc _).alloc _,((Row.newAt (by simp) 32 _).alloc _).alloc _,(Row.newAt (by simp) 32 _).alloc _,Row.newAt (by simp) 32 _⟩
 case round=>
  obtain⟨k,hk,rfl,rfl,hbl,hrows⟩:=hrel
  obtain⟨r0,r1,r2,r3⟩:=hrows.out
  by_cases hlt:k<4
  · have e0:wr.cell? ⟨w.heap.size,k,none⟩=some (.int .u64 (xs.getD k 0)):=(r0.cell k).trans (arrW_get 4 _ k (by rw[HX.out];omega) hlt)
    have e1:wr.cell? ⟨w.heap.size+1,k,none⟩=some (.int .u64 (ys.getD k 0)):=(r1.cell k).trans (arrW_get 4 _ k (by rw[HY.out];omega) hlt)
    have e3:=(r3.cell k).trans (arrW_get 4 _ k (by rw[addL_len];omega) hlt)
    have f3:=r3.frozen k
    have R0:=hD r0
    have R1:=hD r1
    have R2:=hD r2
    have R3:=hD r3
    have hc:=addC_bit xs ys bx bY k
    have hcall:=add64 (xs.getD k 0) (ys.getD k 0) (addC xs ys k) (bx k).1 (bY k).1 hc.1 hc.2
    have hput:=hD (arrW_put_at 4 (addL xs ys k) (adc (xs.getD k 0) (ys.getD k 0) (addC xs ys k)) k (addL_len _ _ _) hlt)
    have hL:Hid (addL xs ys (k+1)=addL xs ys k++[adc (xs.getD k 0) (ys.getD k 0) (addC xs ys k)]):=rfl
    have hC:Hid (addC xs ys (k+1)=adk (xs.getD k 0) (ys.getD k 0) (addC xs ys k)):=rfl
    clear r0 r1 r2 r3 hrows hc
    have hk0:(0:Int)≤(k:Int):=by omega
    have hk4:(k:Int)<4:=by omega
    generalize xs.getD k 0=x at *
    generalize ys.getD k 0=y at *
    generalize addC xs ys k=c at *
    generalize adc x y c=s at *
    generalize adk x y c=d at *
    generalize (addL xs ys k).getD k 0=z at *
    have e0':(wr.setCell ⟨w.heap.size+1+1+1,k,none⟩ (.int .u64 s)).cell? ⟨w.heap.size,k,none⟩=some (.int .u64 x):=((R0.out.farAt (by omega) _).cell k).trans ((R0.out.cell k).symm.trans e0)
    have e1':(wr.setCell ⟨w.heap.size+1+1+1,k,none⟩ (.int .u64 s)).cell? ⟨w.heap.size+1,k,none⟩=some (.int .u64 y):=((R1.out.farAt (by omega) _).cell k).trans ((R1.out.cell k).symm.trans e1)
    go_wp2_with fail
    go_region_held3 (fun u=>u.cell? ⟨w.heap.size,k,none⟩=some (.int .u64 x)∧u.cell? ⟨w.heap.size+1,k,none⟩=some (.int .u64 y)) (first|exact⟨e0,e1⟩|exact⟨e0',e1'⟩) (fail)
    clear e0' e1' hcall
    go_wp2
    go_roundw
    case rel=>
     refine⟨k+1,by omega,by go_num,?_,(hbl.setCell (by simp;omega) _).drew,R0.out.farAt (by omega) _,R1.out.farAt (by omega) _,R2.out.farAt (by omega) _,?_⟩
     · rw[hC.out]
     · rw[hL.out,←hput.out]
       exact R3.out.put k _
    case measure=>simp[intOf];omega
  · obtain rfl:k=4:=by omega
    have hsz:=hD (arrW_size 4 (addL xs ys 4) (by rw[addL_len];omega))
    have hz0:=hD (arrW_size 4 [] (by simp))
    have ho:=hD (arrW_one 4 (addL xs ys 4))
    have R2:Hid (wr.heap[w.heap.size+1+1]?=some (.cells (arrW 4 []) 32 (0,0))):=r2
    have R3:Hid (wr.heap[w.heap.size+1+1+1]?=some (.cells (arrW 4 (addL xs ys 4)) 32 (0,0))):=r3
    clear r0 r1 r2 r3 hrows
    generalize hE:arrW 4 (addL xs ys 4)=cs at *
    have HE:=hD hE
    clear hE
    generalize arrW 4 []=zs at *
    generalize hC:addC xs ys 4=c at *
    have HC:=hD hC
    clear hC
    go_wp2_with (first
     |((with_reducible refine wpList_load_row (o:=⟨some 26,_,_,_,_,_⟩) ?_ 32 (.tmp 6) ?_ (w.heap.size+1+1+1) ?_ 32 cs (0,0) _ R3.out underlying32 ?_ (infoW cs hsz.out) ?_);(rfl);(rfl);(rfl);(rfl))
     |((with_reducible refine wpList_store_row (o:=⟨none, .store 32 _ _,_,_,_,_⟩) ?_ 32 (.tmp 4) (.tmp 26) ?_ (w.heap.size+1+1) cs ?_ ?_ 32 zs R2.out (infoW cs hsz.out) (by rw[hz0.out,hsz.out]) ho.out ?_);(rfl);(rfl);(rfl);(rfl))
     |((with_reducible refine bodyPost_ret (v:= .tuple #[.agg cs, .bool (c==0)]) ?_ ?_ ?_);(exact results_row_slot (p:=4) (q:=5) (ty:=32) results165 _ _ (w.heap.size+1+1) 32 cs (0,0) _ rfl _ rfl (setRow_heap _ _ zs cs 32 (0,0) R2.out) underlying32 rfl (infoW cs hsz.out));(rfl)))
    exact⟨by rw[HE.out,HC.out],below_setRow hbl (by omega) _⟩
theorem subw_any(xs ys:List Int)(w:World)(hx:xs.length=4)(hy:ys.length=4)(bx:Words xs)(bY:Words ys):
  Rz 177 #[.agg (arrW 4 xs), .agg (arrW 4 ys)] w (.tuple #[.agg (arrW 4 (subL xs ys 4)), .bool (subC xs ys 4==0)]):=by
 unfold Rz
 have HX:=hD hx
 have HY:=hD hy
 clear hx hy
 go_enter func177,ntmps177
 go_wp2_with fail
 go_loopw [7,9] (fun c i u=> ∃k:Nat,k≤4∧i= .int .i64 k∧c= .int .u64 (subC xs ys k)∧Below w.heap.size w u∧Hid (Row u w.heap.size 32 (arrW 4 xs)∧Row u (w.heap.size+1) 32 (arrW 4 ys)∧Row u (w.heap.size+1+1) 32 (arrW 4 [])∧Row u (w.heap.size+1+1+1) 32 (arrW 4 (subL xs ys k)))) (fun _ i _=>4- (intOf i).toNat)
 case atStart=>exact⟨0,by omega,rfl,rfl,by go_grown,(((Row.new w 32 _).alloc _).alloc _).alloc _,((Row.newAt (by simp) 32 _).alloc _).alloc _,(Row.newAt (by simp) 32 _).alloc _,Row.newAt (by simp) 32 _⟩
 case round=>
  obtain⟨k,hk,rfl,rfl,hbl,hrows⟩:=hrel
  obtain⟨r0,r1,r2,r3⟩:=hrows.out
  by_cases hlt:k<4
  · have e0:wr.cell? ⟨w.heap.size,k,none⟩=some (.int .u64 (xs.getD k 0)):=(r0.cell k).trans (arrW_get 4 _ k (by rw[HX.out];omega) hlt)
    have e1:wr.cell? ⟨w.heap.size+1,k,none⟩=some (.int .u64 (ys.getD k 0)):=(r1.cell k).trans (arrW_get 4 _ k (by rw[HY.out];omega) hlt)
    have e3:=(r3.cell k).trans (arrW_get 4 _ k (by rw[subL_len];omega) hlt)
    have f3:=r3.frozen k
    have R0:=hD r0
    have R1:=hD r1
    have R2:=hD r2
    have R3:=hD r3
    have hc:=subC_bit xs ys k
    have hcall:=sub64 (xs.getD k 0) (ys.getD k 0) (subC xs ys k) (bx k).1 (bY k).1 (bY k).2 hc.1 hc.2
    have hput:=hD (arrW_put_at 4 (subL xs ys k) (sbc (xs.getD k 0) (ys.getD k 0) (subC xs ys k)) k (subL_len _ _ _) hlt)
    have hL:Hid (subL xs ys (k+1)=subL xs ys k++[sbc (xs.getD k 0) (ys.getD k 0) (subC xs ys k)]):=rfl
    have hC:Hid (subC xs ys (k+1)=sbk (xs.getD k 0) (ys.getD k 0) (subC xs ys k)):=rfl
    clear r0 r1 r2 r3 hrows hc
    have hk0:(0:Int)≤(k:Int):=by omega
    have hk4:(k:Int)<4:=by omega
    generalize xs.getD k 0=x at *
    generalize ys.getD k 0=y at *
    generalize subC xs ys k=c at *
    generalize sbc x y c=s at *
    generalize sbk x y c=d at *
    generalize (subL xs ys k).getD k 0=z at *
    have e0':(wr.setCell ⟨w.heap.size+1+1+1,k,none⟩ (.int .u64 s)).cell? ⟨w.heap.size,k,none⟩=some (.int .u64 x):=((R0.out.farAt (by omega) _).cell k).trans ((R0.out.cell k).symm.trans e0)
    have e1':(wr.setCell ⟨w.heap.size+1+1+1,k,none⟩ (.int .u64 s)).cell? ⟨w.heap.size+1,k,none⟩=some (.int .u64 y):=((R1.out.farAt (by omega) _).cell k).trans ((R1.out.cell k).symm.trans e1)
    go_wp2_with fail
    go_region_held3 (fun u=>u.cell? ⟨w.heap.size,k,none⟩=some (.int .u64 x)∧u.cell? ⟨w.heap.size+1,k,none⟩=some (.int .u64 y)) (first|exact⟨e0,e1⟩|exact⟨e0',e1'⟩) (fail)
    clear e0' e1' hcall
    go_wp2
    go_roundw
    case rel=>
     refine⟨k+1,by omega,by go_num,?_,(hbl.setCell (by simp;omega) _).drew,R0.out.farAt (by omega) _,R1.out.farAt (by omega) _,R2.out.farAt (by omega) _,?_⟩
     · rw[hC.out]
     · rw[hL.out,←hput.out]
       exact R3.out.put k _
    case measure=>simp[intOf];omega
  · obtain rfl:k=4:=by omega
    have hsz:=hD (arrW_size 4 (subL xs ys 4) (by rw[subL_len];omega))
    have hz0:=hD (arrW_size 4 [] (by simp))
    have ho:=hD (arrW_one 4 (subL xs ys 4))
    have R2:Hid (wr.heap[w.heap.size+1+1]?=some (.cells (arrW 4 []) 32 (0,0))):=r2
    have R3:Hid (wr.heap[w.heap.size+1+1+1]?=some (.cells (arrW 4 (subL xs ys 4)) 32 (0,0))):=r3
    clear r0 r1 r2 r3 hrows
    generalize hE:arrW 4 (subL xs ys 4)=cs at *
    have HE:=hD hE
    clear hE
    generalize arrW 4 []=zs at *
    generalize hC:subC xs ys 4=c at *
    have HC:=hD hC
    clear hC
    go_wp2_with (first
     |((with_reducible refine wpList_load_row (o:=⟨some 26,_,_,_,_,_⟩) ?_ 32 (.tmp 6) ?_ (w.heap.size+1+1+1) ?_ 32 cs (0,0) _ R3.out underlying32 ?_ (infoW cs hsz.out) ?_);(rfl);(rfl);(rfl);(rfl))
     |((with_reducible refine wpList_store_row (o:=⟨none, .store 32 _ _,_,_,_,_⟩) ?_ 32 (.tmp 4) (.tmp 26) ?_ (w.heap.size+1+1) cs ?_ ?_ 32 zs R2.out (infoW cs hsz.out) (by rw[hz0.out,hsz.out]) ho.out ?_);(rfl);(rfl);(rfl);(rfl))
     |((with_reducible refine bodyPost_ret (v:= .tuple #[.agg cs, .bool (c==0)]) ?_ ?_ ?_);(exact results_row_slot (p:=4) (q:=5) (ty:=32) results177 _ _ (w.heap.size+1+1) 32 cs (0,0) _ rfl _ rfl (setRow_heap _ _ zs cs 32 (0,0) R2.out) underlying32 rfl (infoW cs hsz.out));(rfl)))
    exact⟨by rw[HE.out,HC.out],below_setRow hbl (by omega) _⟩
def Big:Nat:=115792089237316195423570985008687907853269984665640564039457584007913129639936
theorem Big_eq:Big=2^256:=by decide+kernel
def wl(n:Nat):List Int:=[((n % 18446744073709551616:Nat):Int),((n/18446744073709551616 % 18446744073709551616:Nat):Int),((n/340282366920938463463374607431768211456 % 18446744073709551616:Nat):Int),((n/6277101735386680763835789423207666416102355444464034512896 % 18446744073709551616:Nat):Int)]
theorem wl_len(n:Nat):(wl n).length=4:=rfl
theorem wl_words(n:Nat):Words (wl n):=by
 intro k
 rcases k with _|_|_|_|k
 · simp only[wl,List.getD_cons_zero];omega
 · simp only[wl,List.getD_cons_zero,List.getD_cons_succ];omega
 · simp only[wl,List.getD_cons_zero,List.getD_cons_succ];omega
 · simp only[wl,List.getD_cons_zero,List.getD_cons_succ];omega
 · simp[wl]
def mk4(a b c d:Nat):Nat:=a+18446744073709551616*b+340282366920938463463374607431768211456*c+6277101735386680763835789423207666416102355444464034512896*d
theorem wl_mk4(a b c d:Nat)(ha:a<18446744073709551616)(hb:b<18446744073709551616)(hc:c<18446744073709551616)(hd:d<18446744073709551616):wl (mk4 a b c d)=[(a:Int),(b:Int),(c:Int),(d:Int)]:=by
 have e0:mk4 a b c d % 18446744073709551616=a:=by unfold mk4;omega
 have e1:mk4 a b c d/18446744073709551616 % 18446744073709551616=b:=by unfold mk4;omega
 have e2:mk4 a b c d/340282366920938463463374607431768211456 % 18446744073709551616=c:=by unfold mk4;omega
 have e3:mk4 a b c d/6277101735386680763835789423207666416102355444464034512896 % 18446744073709551616=d:=by unfold mk4;omega
 unfold wl
 rw[e0,e1,e2,e3]
theorem mk4_lt(a b c d:Nat)(ha:a<18446744073709551616)(hb:b<18446744073709551616)(hc:c<18446744073709551616)(hd:d<18446744073709551616):mk4 a b c d<Big:=by
 unfold mk4 Big;omega
theorem split4(n:Nat)(h:n<Big): ∃a b c d:Nat,n=mk4 a b c d∧a<18446744073709551616∧b<18446744073709551616∧c<18446744073709551616∧d<18446744073709551616:=by
 refine⟨n % 18446744073709551616,n/18446744073709551616 % 18446744073709551616,n/340282366920938463463374607431768211456 % 18446744073709551616,n/6277101735386680763835789423207666416102355444464034512896,?_,by omega,by omega,by omega,by unfold Big at h;omega⟩
 unfold mk4;omega
theorem wl_of(xs:List Int)(hl:xs.length=4)(hw:Words xs): ∃n,n<Big∧xs=wl n:=by
 match xs,hl with
 |[a,b,c,d],_=>
  have h0:=hw 0
  have h1:=hw 1
  have h2:=hw 2
  have h3:=hw 3
  simp only[List.getD_cons_zero,List.getD_cons_succ]at h0 h1 h2 h3
  obtain⟨a,rfl⟩:=Int.eq_ofNat_of_zero_le h0.1
  obtain⟨b,rfl⟩:=Int.eq_ofNat_of_zero_le h1.1
  obtain⟨c,rfl⟩:=Int.eq_ofNat_of_zero_le h2.1
  obtain⟨d,rfl⟩:=Int.eq_ofNat_of_zero_le h3.1
  exact⟨mk4 a b c d,mk4_lt a b c d (by omega) (by omega) (by omega) (by omega),(wl_mk4 a b c d (by omega) (by omega) (by omega) (by omega)).symm⟩
theorem wl_inj{m n:Nat}(hm:m<Big)(hn:n<Big)(h:wl m=wl n):m=n:=by
 obtain⟨a,b,c,d,rfl,ha,hb,hc,hd⟩:=split4 m hm
 obtain⟨a',b',c',d',rfl,ha',hb',hc',hd'⟩:=split4 n hn
 rw[wl_mk4 a b c d ha hb hc hd,wl_mk4 a' b' c' d' ha' hb' hc' hd']at h
 simp only[List.cons.injEq,Int.ofNat_inj,and_true]at h
 obtain⟨rfl,rfl,rfl,rfl⟩:=h
 rfl
theorem add_words(m n:Nat)(hm:m<Big)(hn:n<Big):addL (wl m) (wl n) 4=wl ((m+n) % Big)∧(addC (wl m) (wl n) 4==0)=decide (m+n<Big):=by
 obtain⟨a,b,c,d,rfl,ha,hb,hc,hd⟩:=split4 m hm
 obtain⟨a',b',c',d',rfl,ha',hb',hc',hd'⟩:=split4 n hn
 rw[wl_mk4 a b c d ha hb hc hd,wl_mk4 a' b' c' d' ha' hb' hc' hd']
 simp only[addL,addC,adc,adk,List.getD_cons_zero,List.getD_cons_succ,List.nil_append,List.cons_append]
 have k0:((a:Int)+a'+0) /18446744073709551616=(((a+a') /18446744073709551616:Nat):Int):=by omega
 have s0:((a:Int)+a'+0) % 18446744073709551616=(((a+a') % 18446744073709551616:Nat):Int):=by omega
 rw[k0,s0]
 have l0:(a+a') /18446744073709551616≤1:=by omega
 have v0:a+a'=18446744073709551616*((a+a') /18446744073709551616)+(a+a') % 18446744073709551616:=by omega
 have w0:(a+a') % 18446744073709551616<18446744073709551616:=by omega
 generalize (a+a') /18446744073709551616=q0 at *
 generalize (a+a') % 18446744073709551616=r0 at *
 have k1:((b:Int)+b'+q0) /18446744073709551616=(((b+b'+q0) /18446744073709551616:Nat):Int):=by omega
 have s1:((b:Int)+b'+q0) % 18446744073709551616=(((b+b'+q0) % 18446744073709551616:Nat):Int):=by omega
 rw[k1,s1]
 have l1:(b+b'+q0) /18446744073709551616≤1:=by omega
 have v1:b+b'+q0=18446744073709551616*((b+b'+q0) /18446744073709551616)+(b+b'+q0) % 18446744073709551616:=by omega
 have w1:(b+b'+q0) % 18446744073709551616<18446744073709551616:=by omega
 generalize (b+b'+q0) /18446744073709551616=q1 at *
 generalize (b+b'+q0) % 18446744073709551616=r1 at *
 have k2:((c:Int)+c'+q1) /18446744073709551616=(((c+c'+q1) /18446744073709551616:Nat):Int):=by omega
 have s2:((c:Int)+c'+q1) % 18446744073709551616=(((c+c'+q1) % 18446744073709551616:Nat):Int):=by omega
 rw[k2,s2]
 have l2:(c+c'+q1) /18446744073709551616≤1:=by omega
 have v2:c+c'+q1=18446744073709551616*((c+c'+q1) /18446744073709551616)+(c+c'+q1) % 18446744073709551616:=by omega
 have w2:(c+c'+q1) % 18446744073709551616<18446744073709551616:=by omega
 generalize (c+c'+q1) /18446744073709551616=q2 at *
 generalize (c+c'+q1) % 18446744073709551616=r2 at *
 have k3:((d:Int)+d'+q2) /18446744073709551616=(((d+d'+q2) /18446744073709551616:Nat):Int):=by omega
 have s3:((d:Int)+d'+q2) % 18446744073709551616=(((d+d'+q2) % 18446744073709551616:Nat):Int):=by omega
 rw[k3,s3]
 have l3:(d+d'+q2) /18446744073709551616≤1:=by omega
 have v3:d+d'+q2=18446744073709551616*((d+d'+q2) /18446744073709551616)+(d+d'+q2) % 18446744073709551616:=by omega
 have w3:(d+d'+q2) % 18446744073709551616<18446744073709551616:=by omega
 generalize (d+d'+q2) /18446744073709551616=q3 at *
 generalize (d+d'+q2) % 18446744073709551616=r3 at *
 clear k0 k1 k2 k3 s0 s1 s2 s3
 have hs:mk4 a b c d+mk4 a' b' c' d'=mk4 r0 r1 r2 r3+Big*q3:=by unfold mk4 Big;omega
 have hlt:=mk4_lt r0 r1 r2 r3 w0 w1 w2 w3
 have hmod:(mk4 a b c d+mk4 a' b' c' d') % Big=mk4 r0 r1 r2 r3:=by rw[hs,Nat.add_mul_mod_self_left,Nat.mod_eq_of_lt hlt]
 rw[hmod,wl_mk4 r0 r1 r2 r3 w0 w1 w2 w3,hs]
 refine⟨rfl,?_⟩
 rw[Bool.eq_iff_iff]
 simp only[beq_iff_eq,decide_eq_true_eq]
 have:q3=0∨q3=1:=by omega
 rcases this with rfl|rfl
 · simp[hlt]
 · simp
theorem sub_words(m n:Nat)(hm:m<Big)(hn:n<Big):subL (wl m) (wl n) 4=wl ((m+(Big- n)) % Big)∧(subC (wl m) (wl n) 4==0)=decide (n≤m):=by
 obtain⟨a,b,c,d,rfl,ha,hb,hc,hd⟩:=split4 m hm
 obtain⟨a',b',c',d',rfl,ha',hb',hc',hd'⟩:=split4 n hn
 rw[wl_mk4 a b c d ha hb hc hd,wl_mk4 a' b' c' d' ha' hb' hc' hd']
 simp only[subL,subC,sbc,List.getD_cons_zero,List.getD_cons_succ,List.nil_append,List.cons_append]
 have step: ∀(x y q:Nat),x<18446744073709551616→y<18446744073709551616→q≤1→ ∃r q':Nat,((x:Int) - y- q) % 18446744073709551616=(r:Int)∧sbk x y q=(q':Int)∧r<18446744073709551616∧q'≤1∧x+18446744073709551616*q'=y+q+r:=by
  intro x y q hx hy hq
  by_cases h:(x:Int)<y+q
  · exact⟨x+18446744073709551616- y- q,1,by omega,by simp[sbk,h],by omega,by omega,by omega⟩
  · exact⟨x- y- q,0,by omega,by simp[sbk,h],by omega,by omega,by omega⟩
 obtain⟨r0,q0,e0,f0,w0,l0,v0⟩:=step a a' 0 ha ha' (by omega)
 rw[show ((0:Nat):Int)=0 from rfl]at e0 f0
 rw[e0,f0]
 obtain⟨r1,q1,e1,f1,w1,l1,v1⟩:=step b b' q0 hb hb' l0
 rw[e1,f1]
 obtain⟨r2,q2,e2,f2,w2,l2,v2⟩:=step c c' q1 hc hc' l1
 rw[e2,f2]
 obtain⟨r3,q3,e3,f3,w3,l3,v3⟩:=step d d' q2 hd hd' l2
 rw[e3,f3]
 clear step e0 e1 e2 e3 f0 f1 f2 f3
 have hs:mk4 a b c d+Big*q3=mk4 a' b' c' d'+mk4 r0 r1 r2 r3:=by unfold mk4 Big;omega
 have hlt:=mk4_lt r0 r1 r2 r3 w0 w1 w2 w3
 have hmod:(mk4 a b c d+(Big- mk4 a' b' c' d')) % Big=mk4 r0 r1 r2 r3:=by
  have:q3=0∨q3=1:=by omega
  rcases this with rfl|rfl
  · rw[show mk4 a b c d+(Big- mk4 a' b' c' d')=mk4 r0 r1 r2 r3+Big by omega,Nat.add_mod_right,Nat.mod_eq_of_lt hlt]
  · rw[show mk4 a b c d+(Big- mk4 a' b' c' d')=mk4 r0 r1 r2 r3 by omega,Nat.mod_eq_of_lt hlt]
 rw[hmod,wl_mk4 r0 r1 r2 r3 w0 w1 w2 w3]
 refine⟨rfl,?_⟩
 rw[Bool.eq_iff_iff]
 simp only[beq_iff_eq,decide_eq_true_eq]
 have:q3=0∨q3=1:=by omega
 rcases this with rfl|rfl
 · simp;omega
 · simp;omega
attribute [local go_sem ↓] Go.wp_at_zero Go.wp_at_succ
def partZ(xs:List Int)(i:Int):Int:=if 0≤i∧i<4 then xs.getD i.toNat 0 else 0
theorem part_z(x0 x1 x2 x3 i:Int)(w:World):
   Calls Tryz.prog 176 #[.agg #[.int .u64 x0, .int .u64 x1, .int .u64 x2, .int .u64 x3], .int .i64 i] w fun e w'=>e= .returned (.int .u64 (partZ [x0,x1,x2,x3] i))∧w'=w.alloc (.cells #[.int .u64 x0, .int .u64 x1, .int .u64 x2, .int .u64 x3] 32):=by
 by_cases h:0≤i∧i<4
 · refine(part_any [x0,x1,x2,x3] i w rfl h.1 h.2).mono ?_
   rintro e w' ⟨rfl,rfl⟩
   exact⟨by unfold partZ;rw[if_pos h],rfl⟩
 · refine(part_out [x0,x1,x2,x3] i w (by omega)).mono ?_
   rintro e w' ⟨rfl,rfl⟩
   exact⟨by unfold partZ;rw[if_neg h],rfl⟩
def upW(xs:List Int)(p r:Int)(k:Nat):Int:=bits .or .u64 (IntKind.u64.wrap (partZ xs (k- p)*2^r.toNat)) (partZ xs (k- p- 1) /2^ (64- r).toNat)
def upL(xs:List Int)(p r:Int):Nat→List Int
  |0=>[]
  |k+1=>upL xs p r k++[upW xs p r k]
theorem upL_len(xs:List Int)(p r:Int)(k:Nat):(upL xs p r k).length=k:=by
 induction k with
 |zero=>rfl
 |succ k ih=>simp[upL,ih]
def downW(xs:List Int)(p r:Int)(k:Nat):Int:=bits .or .u64 (partZ xs (k+p) /2^r.toNat) (IntKind.u64.wrap (partZ xs (k+p+1)*2^ (64- r).toNat))
def downL(xs:List Int)(p r:Int):Nat→List Int
  |0=>[]
  |k+1=>downL xs p r k++[downW xs p r k]
theorem downL_len(xs:List Int)(p r:Int)(k:Nat):(downL xs p r k).length=k:=by
 induction k with
 |zero=>rfl
 |succ k ih=>simp[downL,ih]
theorem upw_any(x0 x1 x2 x3 n:Int)(w:World)(h0:0≤n)(h1:n≤9223372036854775807):
  Rz 118 #[.agg (arrW 4 [x0,x1,x2,x3]), .int .i64 n] w (.agg (arrW 4 (upL [x0,x1,x2,x3] (n/64) (n % 64) 4))):=by
 unfold Rz
 go_enter func118,ntmps118
 go_wp2_with fail
 have p0:0≤n/64:=by omega
 have p1:n/64≤144115188075855872:=by omega
 have r0:0≤n % 64:=by omega
 have r1:n % 64<64:=by omega
 generalize hp:n/64=p at *
 generalize hr:n % 64=r at *
 have HP:=hD hp
 have HR:=hD hr
 clear hp hr h0 h1
 go_loopw [16] (fun i u=> ∃k:Nat,k≤4∧i= .int .i64 k∧Below w.heap.size w u∧Hid (Row u w.heap.size 32 (arrW 4 [x0,x1,x2,x3])∧Row u (w.heap.size+1) 32 (arrW 4 [])∧Row u (w.heap.size+1+1) 32 (arrW 4 (upL [x0,x1,x2,x3] p r k)))) (fun i _=>4- (intOf i).toNat)
 case atStart=>exact⟨0,by omega,rfl,by go_grown,((Row.new w 32 _).alloc _).alloc _,(Row.newAt (by simp) 32 _).alloc _,Row.newAt (by simp) 32 _⟩
 case round=>
  obtain⟨k,hk,rfl,hbl,hrows⟩:=hrel
  obtain⟨r0',r1',r2⟩:=hrows.out
  by_cases hlt:k<4
  · have R0:=hD r0'
    have R1:=hD r1'
    have R2:=hD r2
    have e2:=(r2.cell k).trans (arrW_get 4 _ k (by rw[upL_len];omega) hlt)
    have f2:=r2.frozen k
    have hput:=hD (arrW_put_at 4 (upL [x0,x1,x2,x3] p r k) (upW [x0,x1,x2,x3] p r k) k (upL_len _ _ _ _) hlt)
    have hL:Hid (upL [x0,x1,x2,x3] p r (k+1)=upL [x0,x1,x2,x3] p r k++[upW [x0,x1,x2,x3] p r k]):=rfl
    have hk0:(0:Int)≤(k:Int):=by omega
    have hk4:(k:Int)<4:=by omega
    have d1:IntKind.i64.wrap ((k:Int) - p)=(k:Int) - p:=by rw[IntWalk.i64_in _ (by omega)]
    have d2:IntKind.i64.wrap ((k:Int) - p- 1)=(k:Int) - p- 1:=by rw[IntWalk.i64_in _ (by omega)]
    have d3:IntKind.i64.wrap (64- r)=64- r:=by rw[IntWalk.i64_in _ (by omega)]
    have d4:0≤64- r:=by omega
    have c0:wr.cell? ⟨w.heap.size,0,none⟩=some (.int .u64 x0):=(r0'.cell 0).trans rfl
    have c1:wr.cell? ⟨w.heap.size,1,none⟩=some (.int .u64 x1):=(r0'.cell 1).trans rfl
    have c2:wr.cell? ⟨w.heap.size,2,none⟩=some (.int .u64 x2):=(r0'.cell 2).trans rfl
    have c3:wr.cell? ⟨w.heap.size,3,none⟩=some (.int .u64 x3):=(r0'.cell 3).trans rfl
    have s2:=r2.lt
    have s0:w.heap.size<wr.heap.size:=by omega
    have s1:w.heap.size+1<wr.heap.size:=by omega
    clear r0' r1' r2 hrows
    generalize (upL [x0,x1,x2,x3] p r k).getD k 0=z at *
    go_wp2_with fail
    go_region_held3 (fun u=>u.cell? ⟨w.heap.size,0,none⟩=some (.int .u64 x0)∧u.cell? ⟨w.heap.size,1,none⟩=some (.int .u64 x1)∧u.cell? ⟨w.heap.size,2,none⟩=some (.int .u64 x2)∧u.cell? ⟨w.heap.size,3,none⟩=some (.int .u64 x3)) (first|exact⟨c0,c1,c2,c3⟩|(simp[go_sem,World.cell?_alloc_past,s0,s2,c0,c1,c2,c3];done)) (first|(go_at_call 176;refine(part_z _ _ _ _ _ _).mono ?_;rintro e w' ⟨rfl,rfl⟩))
    clear d1 d2 d3 d4
    go_wp2
    go_roundw
    case rel=>
     refine⟨k+1,by omega,by go_num,(((hbl.setCell (by simp;omega) _).alloc (by simp;omega) _).alloc (by simp;omega) _).drew,((R0.out.farAt (by omega) _).alloc _).alloc _,((R1.out.farAt (by omega) _).alloc _).alloc _,?_⟩
     rw[hL.out,←hput.out]
     exact((R2.out.put k _).alloc _).alloc _
    case measure=>simp[intOf];omega
  · obtain rfl:k=4:=by omega
    have hsz:=hD (arrW_size 4 (upL [x0,x1,x2,x3] p r 4) (by rw[upL_len];omega))
    have hz0:=hD (arrW_size 4 [] (by simp))
    have ho:=hD (arrW_one 4 (upL [x0,x1,x2,x3] p r 4))
    have R1:Hid (wr.heap[w.heap.size+1]?=some (.cells (arrW 4 []) 32 (0,0))):=r1'
    have R2:Hid (wr.heap[w.heap.size+1+1]?=some (.cells (arrW 4 (upL [x0,x1,x2,x3] p r 4)) 32 (0,0))):=r2
    clear r0' r1' r2 hrows
    generalize hE:arrW 4 (upL [x0,x1,x2,x3] p r 4)=cs at *
    have HE:=hD hE
    clear hE
    generalize arrW 4 []=zs at *
    go_wp2_with (first
     |((with_reducible refine wpList_load_row (o:=⟨some 39,_,_,_,_,_⟩) ?_ 32 (.tmp 5) ?_ (w.heap.size+1+1) ?_ 32 cs (0,0) _ R2.out underlying32 ?_ (infoW cs hsz.out) ?_);(rfl);(rfl);(rfl);(rfl))
     |((with_reducible refine wpList_store_row (o:=⟨none, .store 32 _ _,_,_,_,_⟩) ?_ 32 (.tmp 4) (.tmp 39) ?_ (w.heap.size+1) cs ?_ ?_ 32 zs R1.out (infoW cs hsz.out) (by rw[hz0.out,hsz.out]) ho.out ?_);(rfl);(rfl);(rfl);(rfl))
     |((with_reducible refine bodyPost_ret (v:= .agg cs) ?_ ?_ ?_);(exact results_cell_row (p:=4) (ty:=32) results118 _ _ (w.heap.size+1) 32 cs (0,0) _ rfl (setRow_heap _ _ zs cs 32 (0,0) R1.out) underlying32 rfl (infoW cs hsz.out));(rfl)))
    exact⟨by rw[HP.out,HR.out,HE.out],below_setRow hbl (by omega) _⟩
theorem up_neg(x0 x1 x2 x3 n:Int)(w:World)(h0:n<0):
  Rz 118 #[.agg (arrW 4 [x0,x1,x2,x3]), .int .i64 n] w (.agg (arrW 4 [x0,x1,x2,x3])):=by
 unfold Rz
 change Calls Tryz.prog 118 #[.agg #[.int .u64 x0, .int .u64 x1, .int .u64 x2, .int .u64 x3], .int .i64 n] w fun e w'=>e= .returned (.agg #[.int .u64 x0, .int .u64 x1, .int .u64 x2, .int .u64 x3])∧Below w.heap.size w w'
 go_enter func118,ntmps118
 go_wp2
 go_returns
 exact⟨rfl,by go_grown⟩
theorem downw_any(x0 x1 x2 x3 n:Int)(w:World)(h0:0≤n)(h1:n≤9223372036854775807):
  Rz 123 #[.agg (arrW 4 [x0,x1,x2,x3]), .int .i64 n] w (.agg (arrW 4 (downL [x0,x1,x2,x3] (n/64) (n % 64) 4))):=by
 unfold Rz
 go_enter func123,ntmps123
 go_wp2_with fail
 have p0:0≤n/64:=by omega
 have p1:n/64≤144115188075855872:=by omega
 have r0:0≤n % 64:=by omega
 have r1:n % 64<64:=by omega
 generalize hp:n/64=p at *
 generalize hr:n % 64=r at *
 have HP:=hD hp
 have HR:=hD hr
 clear hp hr h0 h1
 go_loopw [16] (fun i u=> ∃k:Nat,k≤4∧i= .int .i64 k∧Below w.heap.size w u∧Hid (Row u w.heap.size 32 (arrW 4 [x0,x1,x2,x3])∧Row u (w.heap.size+1) 32 (arrW 4 [])∧Row u (w.heap.size+1+1) 32 (arrW 4 (downL [x0,x1,x2,x3] p r k)))) (fun i _=>4- (intOf i).toNat)
 case atStart=>exact⟨0,by omega,rfl,by go_grown,((Row.new w 32 _).alloc _).alloc _,(Row.newAt (by simp) 32 _).alloc _,Row.newAt (by simp) 32 _⟩
 case round=>
  obtain⟨k,hk,rfl,hbl,hrows⟩:=hrel
  obtain⟨r0',r1',r2⟩:=hrows.out
  by_cases hlt:k<4
  · have R0:=hD r0'
    have R1:=hD r1'
    have R2:=hD r2
    have e2:=(r2.cell k).trans (arrW_get 4 _ k (by rw[downL_len];omega) hlt)
    have f2:=r2.frozen k
    have hput:=hD (arrW_put_at 4 (downL [x0,x1,x2,x3] p r k) (downW [x0,x1,x2,x3] p r k) k (downL_len _ _ _ _) hlt)
    have hL:Hid (downL [x0,x1,x2,x3] p r (k+1)=downL [x0,x1,x2,x3] p r k++[downW [x0,x1,x2,x3] p r k]):=rfl
    have hk0:(0:Int)≤(k:Int):=by omega
    have hk4:(k:Int)<4:=by omega
    have d1:IntKind.i64.wrap ((k:Int)+p)=(k:Int)+p:=by rw[IntWalk.i64_in _ (by omega)]
    have d2:IntKind.i64.wrap ((k:Int)+p+1)=(k:Int)+p+1:=by rw[IntWalk.i64_in _ (by omega)]
    have d3:IntKind.i64.wrap (64- r)=64- r:=by rw[IntWalk.i64_in _ (by omega)]
    have d4:0≤64- r:=by omega
    have c0:wr.cell? ⟨w.heap.size,0,none⟩=some (.int .u64 x0):=(r0'.cell 0).trans rfl
    have c1:wr.cell? ⟨w.heap.size,1,none⟩=some (.int .u64 x1):=(r0'.cell 1).trans rfl
    have c2:wr.cell? ⟨w.heap.size,2,none⟩=some (.int .u64 x2):=(r0'.cell 2).trans rfl
    have c3:wr.cell? ⟨w.heap.size,3,none⟩=some (.int .u64 x3):=(r0'.cell 3).trans rfl
    have s2:=r2.lt
    have s0:w.heap.size<wr.heap.size:=by omega
    have s1:w.heap.size+1<wr.heap.size:=by omega
    clear r0' r1' r2 hrows
    generalize (downL [x0,x1,x2,x3] p r k).getD k 0=z at *
    go_wp2_with fail
    go_region_held3 (fun u=>u.cell? ⟨w.heap.size,0,none⟩=some (.int .u64 x0)∧u.cell? ⟨w.heap.size,1,none⟩=some (.int .u64 x1)∧u.cell? ⟨w.heap.size,2,none⟩=some (.int .u64 x2)∧u.cell? ⟨w.heap.size,3,none⟩=some (.int .u64 x3)) (first|exact⟨c0,c1,c2,c3⟩|(simp[go_sem,World.cell?_alloc_past,s0,s2,c0,c1,c2,c3];done)) (first|(go_at_call 176;refine(part_z _ _ _ _ _ _).mono ?_;rintro e w' ⟨rfl,rfl⟩))
    clear d1 d2 d3 d4
    go_wp2
    go_roundw
    case rel=>
     refine⟨k+1,by omega,by go_num,(((hbl.setCell (by simp;omega) _).alloc (by simp;omega) _).alloc (by simp;omega) _).drew,((R0.out.farAt (by omega) _).alloc _).alloc _,((R1.out.farAt (by omega) _).alloc _).alloc _,?_⟩
     rw[hL.out,←hput.out]
     exact((R2.out.put k _).alloc _).alloc _
    case measure=>simp[intOf];omega
  · obtain rfl:k=4:=by omega
    have hsz:=hD (arrW_size 4 (downL [x0,x1,x2,x3] p r 4) (by rw[downL_len];omega))
    have hz0:=hD (arrW_size 4 [] (by simp))
    have ho:=hD (arrW_one 4 (downL [x0,x1,x2,x3] p r 4))
    have R1:Hid (wr.heap[w.heap.size+1]?=some (.cells (arrW 4 []) 32 (0,0))):=r1'
    have R2:Hid (wr.heap[w.heap.size+1+1]?=some (.cells (arrW 4 (downL [x0,x1,x2,x3] p r 4)) 32 (0,0))):=r2
    clear r0' r1' r2 hrows
    generalize hE:arrW 4 (downL [x0,x1,x2,x3] p r 4)=cs at *
    have HE:=hD hE
    clear hE
    generalize arrW 4 []=zs at *
    go_wp2_with (first
     |((with_reducible refine wpList_load_row (o:=⟨some 39,_,_,_,_,_⟩) ?_ 32 (.tmp 5) ?_ (w.heap.size+1+1) ?_ 32 cs (0,0) _ R2.out underlying32 ?_ (infoW cs hsz.out) ?_);(rfl);(rfl);(rfl);(rfl))
     |((with_reducible refine wpList_store_row (o:=⟨none, .store 32 _ _,_,_,_,_⟩) ?_ 32 (.tmp 4) (.tmp 39) ?_ (w.heap.size+1) cs ?_ ?_ 32 zs R1.out (infoW cs hsz.out) (by rw[hz0.out,hsz.out]) ho.out ?_);(rfl);(rfl);(rfl);(rfl))
     |((with_reducible refine bodyPost_ret (v:= .agg cs) ?_ ?_ ?_);(exact results_cell_row (p:=4) (ty:=32) results123 _ _ (w.heap.size+1) 32 cs (0,0) _ rfl (setRow_heap _ _ zs cs 32 (0,0) R1.out) underlying32 rfl (infoW cs hsz.out));(rfl)))
    exact⟨by rw[HP.out,HR.out,HE.out],below_setRow hbl (by omega) _⟩
def W(m j:Nat):Nat:=m/2^ (64*j) % 2^64
theorem W_bit(m j i:Nat):(W m j).testBit i=(decide (i<64) && m.testBit (64*j+i)):=by
 unfold W
 rw[Nat.testBit_mod_two_pow,Nat.testBit_div_two_pow,Nat.add_comm]
theorem W_lt(m j:Nat):W m j<18446744073709551616:=by
 unfold W
 exact Nat.mod_lt _ (by decide)
theorem wl_W(m:Nat):wl m=[(W m 0:Int),(W m 1:Int),(W m 2:Int),(W m 3:Int)]:=by
 unfold wl W
 rw[show 2^ (64*0)=1 from rfl,show 2^ (64*1)=18446744073709551616 from rfl,show 2^ (64*2)=340282366920938463463374607431768211456 from rfl,show 2^ (64*3)=6277101735386680763835789423207666416102355444464034512896 from rfl,Nat.div_one]
theorem W_high(m j:Nat)(h:m<Big)(hj:4≤j):W m j=0:=by
 unfold W
 rw[Nat.div_eq_of_lt,Nat.zero_mod]
 rw[Big_eq]at h
 exact Nat.lt_of_lt_of_le h (Nat.pow_le_pow_right (by omega) (by omega))
theorem wl_get(m k:Nat)(hk:k<4):(wl m).getD k 0=(W m k:Int):=by
 rw[wl_W]
 rcases k with _|_|_|_|k
 all_goals first|rfl|omega
theorem partZ_nat(m k:Nat)(h:m<Big):partZ (wl m) (k:Int)=(W m k:Int):=by
 unfold partZ
 by_cases hk:k<4
 · rw[if_pos (by omega),Int.toNat_natCast,wl_get m k hk]
 · rw[if_neg (by omega),W_high m k h (by omega)]
   rfl
theorem partZ_neg(xs:List Int)(i:Int)(h:i<0):partZ xs i=0:=by
 unfold partZ
 rw[if_neg (by omega)]
theorem shlW(a r:Nat):IntKind.u64.wrap ((a:Int)*2^r)=((a*2^r % 2^64:Nat):Int):=by
 rw[IntKind.wrap_u64,show (2:Nat)^64=18446744073709551616 from rfl]
 simp
theorem shrW(a r:Nat):(a:Int) /2^r=((a/2^r:Nat):Int):=by simp
theorem orW(a b:Nat)(ha:a<18446744073709551616)(hb:b<18446744073709551616):bits .or .u64 (a:Int) (b:Int)=((a|||b:Nat):Int):=bits_or_u64_nat a b ha hb
theorem upW_eq(m n k:Nat)(h:m<Big):upW (wl m) ((n:Int) /64) ((n:Int) % 64) k=(W (m*2^n) k:Int):=by
 have hr:((n:Int) % 64).toNat=n % 64:=by omega
 have hr':(64- (n:Int) % 64).toNat=64- n % 64:=by omega
 have hn:n=64*(n/64)+n % 64:=by omega
 have hr1:n % 64<64:=by omega
 have hq:(n:Int) /64=((n/64:Nat):Int):=by omega
 unfold upW
 rw[hr,hr',hq]
 generalize n/64=p at *
 generalize n % 64=r at *
 subst hn
 clear hr hr' hq
 have key: ∃a b:Nat,partZ (wl m) ((k:Int) - p)=(a:Int)∧partZ (wl m) ((k:Int) - p- 1)=(b:Int)∧a<18446744073709551616∧b<18446744073709551616∧(∀i,a.testBit i=(decide (i<64) && (decide (p≤k) && m.testBit (64*(k- p)+i))))∧(∀i,b.testBit i=(decide (i<64) && (decide (p+1≤k) && m.testBit (64*(k- p- 1)+i)))):=by
  refine⟨if p≤k then W m (k- p)else 0,if p+1≤k then W m (k- p- 1)else 0,?_,?_,?_,?_,?_,?_⟩
  · by_cases c:p≤k
    · rw[if_pos c,show (k:Int) - p=((k- p:Nat):Int)by omega,partZ_nat m _ h]
    · rw[if_neg c,partZ_neg _ _ (by omega)];rfl
  · by_cases c:p+1≤k
    · rw[if_pos c,show (k:Int) - p- 1=((k- p- 1:Nat):Int)by omega,partZ_nat m _ h]
    · rw[if_neg c,partZ_neg _ _ (by omega)];rfl
  · split
    · exact W_lt _ _
    · decide
  · split
    · exact W_lt _ _
    · decide
  · intro i
    by_cases c:p≤k
    · rw[if_pos c,W_bit];simp[c]
    · rw[if_neg c];simp[c]
  · intro i
    by_cases c:p+1≤k
    · rw[if_pos c,W_bit];simp[c]
    · rw[if_neg c];simp[c]
 obtain⟨a,b,ea,eb,la,lb,ta,tb⟩:=key
 have l1:a*2^r % 2^64<18446744073709551616:=Nat.mod_lt _ (by decide)
 have l2:b/2^ (64- r)<18446744073709551616:=Nat.lt_of_le_of_lt (Nat.div_le_self _ _) lb
 rw[ea,eb,shlW,shrW,orW _ _ l1 l2]
 congr 1
 apply Nat.eq_of_testBit_eq
 intro i
 rw[Nat.testBit_or,Nat.testBit_mod_two_pow,Nat.testBit_mul_two_pow,Nat.testBit_div_two_pow,ta,tb,W_bit,Nat.testBit_mul_two_pow]
 by_cases hi:i<64
 · by_cases hir:r≤i
   · by_cases hpk:p≤k
     · have e1:64*(k- p)+(i- r)=64*k+i- (64*p+r):=by omega
       rw[e1]
       simp only[hi,hir,hpk,ge_iff_le,decide_true,Bool.true_and,show i- r<64 by omega,show 64*p+r≤64*k+i by omega,show¬(i+(64- r)<64)by omega,decide_false,Bool.false_and,Bool.or_false]
     · simp only[hi,hpk,show¬(64*p+r≤64*k+i)by omega,show¬(p+1≤k)by omega,ge_iff_le,decide_false,Bool.false_and,Bool.and_false,Bool.or_false]
   · by_cases hpk:p+1≤k
     · have e1:64*(k- p- 1)+(i+(64- r))=64*k+i- (64*p+r):=by omega
       rw[e1]
       simp only[hi,hir,hpk,ge_iff_le,decide_true,Bool.true_and,show i+(64- r)<64 by omega,show 64*p+r≤64*k+i by omega,decide_false,Bool.false_and,Bool.false_or]
     · simp only[hi,hir,hpk,show¬(64*p+r≤64*k+i)by omega,ge_iff_le,decide_false,Bool.false_and,Bool.and_false,Bool.or_false]
 · simp only[hi,decide_false,Bool.false_and,Bool.false_or,show¬(i+(64- r)<64)by omega]
theorem W_mod(m k:Nat)(hk:k<4):W (m % Big) k=W m k:=by
 apply Nat.eq_of_testBit_eq
 intro i
 rw[W_bit,W_bit,Big_eq,Nat.testBit_mod_two_pow]
 by_cases hi:i<64
 · simp[hi,show 64*k+i<256 by omega]
 · simp[hi]
theorem up_words(m n:Nat)(h:m<Big):upL (wl m) ((n:Int) /64) ((n:Int) % 64) 4=wl (m*2^n % Big):=by
 rw[wl_W (m*2^n % Big)]
 simp only[upL,List.nil_append,List.cons_append,upW_eq m n _ h,W_mod _ 0 (by omega),W_mod _ 1 (by omega),W_mod _ 2 (by omega),W_mod _ 3 (by omega)]
theorem downW_eq(m n k:Nat)(h:m<Big):downW (wl m) ((n:Int) /64) ((n:Int) % 64) k=(W (m/2^n) k:Int):=by
 have hr:((n:Int) % 64).toNat=n % 64:=by omega
 have hr':(64- (n:Int) % 64).toNat=64- n % 64:=by omega
 have hn:n=64*(n/64)+n % 64:=by omega
 have hr1:n % 64<64:=by omega
 have hq:(n:Int) /64=((n/64:Nat):Int):=by omega
 unfold downW
 rw[hr,hr',hq]
 generalize n/64=p at *
 generalize n % 64=r at *
 subst hn
 clear hr hr' hq
 rw[show (k:Int)+p=((k+p:Nat):Int)by omega,show ((k+p:Nat):Int)+1=((k+p+1:Nat):Int)by omega,partZ_nat m _ h,partZ_nat m _ h]
 have la:=W_lt m (k+p)
 have l1:W m (k+p+1)*2^ (64- r) % 2^64<18446744073709551616:=Nat.mod_lt _ (by decide)
 have l2:W m (k+p) /2^r<18446744073709551616:=Nat.lt_of_le_of_lt (Nat.div_le_self _ _) la
 rw[shlW,shrW,orW _ _ l2 l1]
 congr 1
 apply Nat.eq_of_testBit_eq
 intro i
 rw[Nat.testBit_or,Nat.testBit_mod_two_pow,Nat.testBit_mul_two_pow,Nat.testBit_div_two_pow,W_bit,W_bit,W_bit,Nat.testBit_div_two_pow]
 by_cases hi:i<64
 · by_cases hir:i+r<64
   · have e1:64*(k+p)+(i+r)=64*k+i+(64*p+r):=by omega
     rw[e1]
     simp only[hi,hir,ge_iff_le,decide_true,Bool.true_and,show¬(64- r≤i)by omega,decide_false,Bool.false_and,Bool.or_false]
   · have e1:64*(k+p+1)+(i- (64- r))=64*k+i+(64*p+r):=by omega
     rw[e1]
     simp only[hi,hir,ge_iff_le,decide_true,Bool.true_and,show 64- r≤i by omega,show i- (64- r)<64 by omega,decide_false,Bool.false_and,Bool.false_or]
 · simp only[hi,decide_false,Bool.false_and,Bool.or_false,show¬(i+r<64)by omega]
theorem down_words(m n:Nat)(h:m<Big):downL (wl m) ((n:Int) /64) ((n:Int) % 64) 4=wl (m/2^n):=by
 rw[wl_W (m/2^n)]
 simp only[downL,List.nil_append,List.cons_append,downW_eq m n _ h]
theorem bit_word(m i:Nat)(hi:i<256):bits .and .u64 ((wl m).getD ((i:Int) /64).toNat 0/2^ ((i:Int) % 64).toNat) 1=((m/2^i % 2:Nat):Int):=by
 have e1:((i:Int) /64).toNat=i/64:=by omega
 have e2:((i:Int) % 64).toNat=i % 64:=by omega
 rw[e1,e2,wl_get m _ (by omega),shrW]
 have l2:W m (i/64) /2^ (i % 64)<18446744073709551616:=Nat.lt_of_le_of_lt (Nat.div_le_self _ _) (W_lt _ _)
 rw[show (1:Int)=((1:Nat):Int)from rfl,bits_and_u64_nat _ _ l2 (by decide),Nat.and_one_is_mod]
 congr 1
 have t0:=Nat.mod_two_eq_one_iff_testBit_zero (x:=W m (i/64) /2^ (i % 64))
 have t1:=Nat.mod_two_eq_one_iff_testBit_zero (x:=m/2^i)
 rw[Nat.testBit_div_two_pow,W_bit,show 64*(i/64)+(0+i % 64)=i by omega]at t0
 rw[Nat.testBit_div_two_pow,Nat.zero_add]at t1
 simp only[Nat.zero_add,show i % 64<64 by omega,decide_true,Bool.true_and]at t0
 have m0:W m (i/64) /2^ (i % 64) % 2<2:=Nat.mod_lt _ (by omega)
 have m1:m/2^i % 2<2:=Nat.mod_lt _ (by omega)
 cases hb:m.testBit i
 · simp only[hb,Bool.false_eq_true,iff_false]at t0 t1;omega
 · simp only[hb,iff_true]at t0 t1;omega
def wcs(n:Nat):Array Value:=arrW 4 (wl n)
theorem wc_size(n:Nat):(wcs n).size=4:=arrW_size 4 _ (by simp[wl_len])
theorem wc_one(n:Nat):(wcs n).all (·.oneCell')=true:=arrW_one 4 _
theorem wc_info(n:Nat):(Tryz.prog.info? 32).map (·.size)=some (wcs n).size:=infoW _ (wc_size n)
theorem wc_get(n k:Nat)(hk:k<4):(wcs n)[k]?=some (.int .u64 (W n k)):=by
 unfold wcs
 rw[arrW_get 4 _ k (by simp[wl_len]) hk,wl_get n k hk]
theorem wc_cells(n:Nat):wcs n= #[.int .u64 (W n 0), .int .u64 (W n 1), .int .u64 (W n 2), .int .u64 (W n 3)]:=by
 unfold wcs
 rw[wl_W]
 rfl
theorem wc_small(n:Nat)(h:n<18446744073709551616):wcs n=arrW 4 [(n:Int),0,0,0]:=by
 unfold wcs
 have:=wl_mk4 n 0 0 0 h (by decide) (by decide) (by decide)
 rw[show mk4 n 0 0 0=n by unfold mk4;omega]at this
 rw[this]
 rfl
theorem add_any(m n:Nat)(w:World)(hm:m<Big)(hn:n<Big):
  Rz 165 #[.agg (wcs m), .agg (wcs n)] w (.tuple #[.agg (wcs ((m+n) % Big)), .bool (decide (m+n<Big))]):=by
 unfold Rz
 have h:=add_words m n hm hn
 refine(addw_any (wl m) (wl n) w (wl_len m) (wl_len n) (wl_words m) (wl_words n)).mono ?_
 rintro e w' ⟨rfl,hb⟩
 exact⟨by rw[h.1,h.2];rfl,hb⟩
theorem sub_any(m n:Nat)(w:World)(hm:m<Big)(hn:n<Big):
  Rz 177 #[.agg (wcs m), .agg (wcs n)] w (.tuple #[.agg (wcs ((m+(Big- n)) % Big)), .bool (decide (n≤m))]):=by
 unfold Rz
 have h:=sub_words m n hm hn
 refine(subw_any (wl m) (wl n) w (wl_len m) (wl_len n) (wl_words m) (wl_words n)).mono ?_
 rintro e w' ⟨rfl,hb⟩
 exact⟨by rw[h.1,h.2];rfl,hb⟩
theorem up_any(m n:Nat)(w:World)(hm:m<Big)(hn:n≤9223372036854775807):
  Rz 118 #[.agg (wcs m), .int .i64 n] w (.agg (wcs (m*2^n % Big))):=by
 unfold Rz
 have h:=up_words m n hm
 have e:wcs m=arrW 4 [(W m 0:Int),(W m 1:Int),(W m 2:Int),(W m 3:Int)]:=by unfold wcs;rw[wl_W]
 rw[e]
 rw[wl_W]at h
 refine(upw_any _ _ _ _ n w (by omega) (by omega)).mono ?_
 rintro e w' ⟨rfl,hb⟩
 exact⟨by rw[h];rfl,hb⟩
theorem down_any(m n:Nat)(w:World)(hm:m<Big)(hn:n≤9223372036854775807):
  Rz 123 #[.agg (wcs m), .int .i64 n] w (.agg (wcs (m/2^n))):=by
 unfold Rz
 have h:=down_words m n hm
 have e:wcs m=arrW 4 [(W m 0:Int),(W m 1:Int),(W m 2:Int),(W m 3:Int)]:=by unfold wcs;rw[wl_W]
 rw[e]
 rw[wl_W]at h
 refine(downw_any _ _ _ _ n w (by omega) (by omega)).mono ?_
 rintro e w' ⟨rfl,hb⟩
 exact⟨by rw[h];rfl,hb⟩
theorem up_below(m:Nat)(n:Int)(w:World)(hn:n<0):
  Rz 118 #[.agg (wcs m), .int .i64 n] w (.agg (wcs m)):=by
 unfold Rz
 have e:wcs m=arrW 4 [(W m 0:Int),(W m 1:Int),(W m 2:Int),(W m 3:Int)]:=by unfold wcs;rw[wl_W]
 rw[e]
 exact up_neg _ _ _ _ n w hn
def bitN(m i:Nat):Nat:=m/2^i % 2
theorem bit_n(m i:Nat)(w:World)(hi:i<256):
  Calls Tryz.prog 218 #[.agg (wcs m), .int .i64 i] w fun e w'=>e= .returned (.int .u64 (bitN m i))∧w'=w.alloc (.cells (wcs m) 32):=by
 have h:=bit_word m i hi
 refine(bit_any (wl m) i w (wl_len m) (by omega) (by omega)).mono ?_
 rintro e w' ⟨rfl,hb⟩
 exact⟨by rw[h];rfl,hb⟩
theorem of_n(n:Nat)(w:World)(h:n<18446744073709551616):
  Rz 119 #[.int .u64 n] w (.agg (wcs n)):=by
 unfold Rz
 rw[wc_small n h]
 exact of_any n w
theorem cellsU64:Tryz.prog.cellsOf 24=1:=by kernel_rfl
theorem plainU64:Tryz.prog.plainKey 24=true:=by kernel_rfl
theorem run_itemsW(d:Nat)(m n:Nat)(w:World): ∀is:List Nat,(∀i∈is,i<4)→
  (Op.eqItems (d+1) 24 1 (wcs m) (wcs n) is).run Tryz.prog w= .ok (decide (∀i∈is,W m i=W n i)) w
 |[],_=>by simp[Op.eqItems]
 |i::is,h=>by
  have hi:=h i (by simp)
  have p1:=run_part_plain (P:=Tryz.prog) w plainU64 (wc_get m i hi)
  have p2:=run_part_plain (P:=Tryz.prog) w plainU64 (wc_get n i hi)
  have p3:=run_equalIn_int (P:=Tryz.prog) w d 24 .u64 .u64 (W m i) (W n i) underlying24
  have ih:=run_itemsW d m n w is (fun j hj=>h j (by simp[hj]))
  simp only[Op.eqItems,Sem.run_bind,Nat.mul_one,p1,p2,p3,Result.andThen_ok]
  by_cases e:W m i=W n i
  · have e':((W m i:Int)==(W n i:Int))=true:=by simp[e]
    rw[e']
    simp only[Bool.not_true,Bool.false_eq_true,if_false,ih,List.forall_mem_cons,e,true_and]
  · have e':((W m i:Int)==(W n i:Int))=false:=by simp;omega
    rw[e']
    simp only[Bool.not_false,if_true,Sem.run_pure,List.forall_mem_cons,e,false_and,decide_false]
def eqN(m n:Nat):Bool:=decide (m=n)
theorem words_eq_iff(m n:Nat)(hm:m<Big)(hn:n<Big):(∀i∈List.range 4,W m i=W n i) ↔m=n:=by
 constructor
 · intro h
   apply wl_inj hm hn
   rw[wl_W,wl_W,h 0 (by simp),h 1 (by simp),h 2 (by simp),h 3 (by simp)]
 · rintro rfl i _
   rfl
theorem run_equal_wide(m n:Nat)(hm:m<Big)(hn:n<Big)(w:World):(Op.equal 32 (.agg (wcs m)) (.agg (wcs n))).run Tryz.prog w= .ok (eqN m n) w:=by
 unfold Op.equal
 cases hq:Tryz.prog.info? 24 with
 |none=>
  have:(Tryz.prog.info? 24).isSome=true:=by kernel_rfl
  rw[hq]at this
  cases this
 |some i=>
  have h:=run_equalIn_array (P:=Tryz.prog) w 9999 (wcs m) (wcs n) underlying32 hq
  rw[cellsU64,run_itemsW 9998 m n w (List.range 4) (by simp)]at h
  have e:decide (∀i∈List.range 4,W m i=W n i)=eqN m n:=decide_eq_decide.2 (words_eq_iff m n hm hn)
  rw[e]at h
  exact h
theorem eql_wide(m n:Nat)(hm:m<Big)(hn:n<Big)(w:World):(binOp .eql 32 (.agg (wcs m)) (.agg (wcs n))).run Tryz.prog w= .ok (.bool (eqN m n)) w:=by
 simp only[binOp]
 simp[run_equal_wide m n hm hn w]
theorem Big_pos:0<Big:=by decide
theorem eql_zero(m:Nat)(hm:m<Big)(w:World):(binOp .eql 32 (.agg (wcs m)) (.agg #[.int .u64 0, .int .u64 0, .int .u64 0, .int .u64 0])).run Tryz.prog w= .ok (.bool (eqN m 0)) w:=eql_wide m 0 hm Big_pos w
def cmpI(m n:Nat):Int:=if m<n then-1 else if m=n then 0 else 1
theorem cmp_any(m n:Nat)(w:World)(hm:m<Big)(hn:n<Big):
   Rz 122 #[.agg (wcs m), .agg (wcs n)] w (.int .i64 (cmpI m n)):=by
 unfold Rz
 have HM:=hD hm
 have HN:=hD hn
 have heq:=eql_wide m n hm hn
 clear hm hn
 have R0:Hid (((w.alloc (.cells (wcs m) 32)).alloc (.cells (wcs n) 32)).heap[w.heap.size]?=some (.cells (wcs m) 32 (0,0))):=(Row.new w 32 _).alloc _
 have R1:Hid (((w.alloc (.cells (wcs m) 32)).alloc (.cells (wcs n) 32)).heap[w.heap.size+1]?=some (.cells (wcs n) 32 (0,0))):=Row.newAt (by simp) 32 _
 have hbl:Hid (Below w.heap.size w ((w.alloc (.cells (wcs m) 32)).alloc (.cells (wcs n) 32))):=by show Below _ _ _;go_grown
 cases hc:eqN m n
 · rw[hc]at heq
   have hne0:m≠n:=by simpa [eqN] using hc
   have hne:=hD hne0
   clear hc hne0
   go_enter func122,ntmps122
   go_wp2_with (first
     |((with_reducible refine wpList_load_row (o:=⟨some 7,_,_,_,_,_⟩) ?_ 32 (.tmp 2) ?_ w.heap.size ?_ 32 (wcs m) (0,0) _ R0.out underlying32 ?_ (wc_info _) ?_);(rfl);(rfl);(rfl);(rfl))
     |((with_reducible refine wpList_load_row (o:=⟨some 8,_,_,_,_,_⟩) ?_ 32 (.tmp 3) ?_ (w.heap.size+1) ?_ 32 (wcs n) (0,0) _ R1.out underlying32 ?_ (wc_info _) ?_);(rfl);(rfl);(rfl);(rfl))
     |((with_reducible refine wpList_load_row (o:=⟨some 11,_,_,_,_,_⟩) ?_ 32 (.tmp 2) ?_ w.heap.size ?_ 32 (wcs m) (0,0) _ R0.out underlying32 ?_ (wc_info _) ?_);(rfl);(rfl);(rfl);(rfl))
     |((with_reducible refine wpList_load_row (o:=⟨some 12,_,_,_,_,_⟩) ?_ 32 (.tmp 3) ?_ (w.heap.size+1) ?_ 32 (wcs n) (0,0) _ R1.out underlying32 ?_ (wc_info _) ?_);(rfl);(rfl);(rfl);(rfl)))
   refine(sub_any m n _ HM.out HN.out).mono ?_
   rintro e w1 ⟨rfl,hb⟩
   have b1:=hD (hbl.out.trans (hb.mono hbl.out.size))
   clear hb hbl R0 R1 heq
   have hw1:Hid (w.heap.size≤w1.heap.size):=b1.out.size
   by_cases hle:n≤m
   · have hle':decide (n≤m)=true:=by simpa using hle
     have hres:Hid (cmpI m n=1):=by show _=_;unfold cmpI;rw[if_neg (by omega),if_neg hne.out]
     rw[hle']
     clear hle hle'
     have hsz:=wc_size ((m+(Big- n)) % Big)
     have hon:=wc_one ((m+(Big- n)) % Big)
     have hin:=wc_info ((m+(Big- n)) % Big)
     generalize wcs ((m+(Big- n)) % Big)=cs at *
     have HSZ:=hD hsz
     have HON:=hD hon
     have HIN:=hD hin
     clear hsz hon hin
     go_wp2_with ((with_reducible refine wpList_store_row (o:=⟨none, .store 32 _ _,_,_,_,_⟩) ?_ 32 (.tmp 5) (.tmp 14) ?_ w1.heap.size cs ?_ ?_ 32 _ (heap_alloc_last w1 _) HIN.out ?_ HON.out ?_);(rfl);(rfl);(rfl);(rfl);(rw[HSZ.out];rfl);rw[World.setRow_alloc_new])
     go_ret
     exact⟨by rw[hres.out];rfl,b1.out.alloc hw1.out _⟩
   · have hle':decide (n≤m)=false:=by simpa using hle
     have hres:Hid (cmpI m n= -1):=by show _=_;unfold cmpI;rw[if_pos (by omega)]
     rw[hle']
     clear hle hle'
     have hsz:=wc_size ((m+(Big- n)) % Big)
     have hon:=wc_one ((m+(Big- n)) % Big)
     have hin:=wc_info ((m+(Big- n)) % Big)
     generalize wcs ((m+(Big- n)) % Big)=cs at *
     have HSZ:=hD hsz
     have HON:=hD hon
     have HIN:=hD hin
     clear hsz hon hin
     go_wp2_with ((with_reducible refine wpList_store_row (o:=⟨none, .store 32 _ _,_,_,_,_⟩) ?_ 32 (.tmp 5) (.tmp 14) ?_ w1.heap.size cs ?_ ?_ 32 _ (heap_alloc_last w1 _) HIN.out ?_ HON.out ?_);(rfl);(rfl);(rfl);(rfl);(rw[HSZ.out];rfl);rw[World.setRow_alloc_new])
     go_ret
     exact⟨by rw[hres.out];rfl,b1.out.alloc hw1.out _⟩
 · rw[hc]at heq
   have hne0:m=n:=by simpa [eqN] using hc
   have hne:=hD hne0
   clear hc hne0
   have hres:Hid (cmpI m n=0):=by show _=_;unfold cmpI;rw[if_neg (by have:=hne.out;omega),if_pos hne.out]
   go_enter func122,ntmps122
   go_wp2_with (first
     |((with_reducible refine wpList_load_row (o:=⟨some 7,_,_,_,_,_⟩) ?_ 32 (.tmp 2) ?_ w.heap.size ?_ 32 (wcs m) (0,0) _ R0.out underlying32 ?_ (wc_info _) ?_);(rfl);(rfl);(rfl);(rfl))
     |((with_reducible refine wpList_load_row (o:=⟨some 8,_,_,_,_,_⟩) ?_ 32 (.tmp 3) ?_ (w.heap.size+1) ?_ 32 (wcs n) (0,0) _ R1.out underlying32 ?_ (wc_info _) ?_);(rfl);(rfl);(rfl);(rfl)))
   go_ret
   exact⟨by rw[hres.out];rfl,hbl.out⟩
def byteAt(a i:Nat):Nat:=a/2^ (8*(31- i)) % 256
theorem byteAt_lt(a i:Nat):byteAt a i<256:=Nat.mod_lt _ (by omega)
def listF(f:Nat→Int):List Int:=(List.range 32).map f
theorem listF_len(f:Nat→Int):(listF f).length=32:=by simp[listF]
theorem listF_get(f:Nat→Int)(i:Nat)(h:i<32):(listF f).getD i 0=f i:=by
 unfold listF
 simp[List.getD,h]
def idF(f:Nat→Int):Array Value:=arrB 32 (listF f)
theorem idF_size(f:Nat→Int):(idF f).size=32:=arrB_size 32 _ (by rw[listF_len];omega)
theorem idF_one(f:Nat→Int):(idF f).all (·.oneCell')=true:=arrB_one 32 _
theorem idF_get(f:Nat→Int)(i:Nat)(h:i<32):(idF f)[i]?=some (.int .u8 (f i)):=by
 unfold idF
 rw[arrB_get 32 _ i (by rw[listF_len];omega) h,listF_get f i h]
theorem idF_put(f g:Nat→Int)(j:Nat)(v:Int)(hj:j<32)(hg:g j=v)(hf: ∀i,i<32→i≠j→g i=f i):(idF f).setIfInBounds j (.int .u8 v)=idF g:=by
 unfold idF
 apply arrB_ext
 · rw[listF_len];omega
 · rw[Array.size_setIfInBounds];exact idF_size f
 · intro i hi
   rw[Array.getElem?_setIfInBounds,listF_get g i hi]
   by_cases e:j=i
   · subst e
     rw[if_pos rfl,if_pos (by rw[arrB_size 32 _ (by rw[listF_len];omega)];exact hj),hg]
   · rw[if_neg e,hf i hi (fun h=>e h.symm)]
     exact idF_get f i hi
theorem idF_zero:arrB 32 []=idF (fun _=>0):=by
 unfold idF
 apply arrB_ext
 · rw[listF_len];omega
 · rw[arrB_size 32 [] (by simp)]
 · intro i hi
   rw[listF_get _ i hi,arrB_get 32 [] i (by simp) hi]
   rfl
theorem idF_congr(f g:Nat→Int)(h: ∀i,i<32→f i=g i):idF f=idF g:=by
 unfold idF
 congr 1
 unfold listF
 apply List.map_congr_left
 intro i hi
 exact h i (by simpa using hi)
def bytesOf(a:Nat):Nat→Int:=fun i=>(byteAt a i:Int)
theorem byte_word(a k:Nat)(hk:k<32):W a (3- k/8) /2^ (8*(7- k % 8)) % 256=byteAt a k:=by
 unfold byteAt
 rw[show (256:Nat)=2^8 from rfl]
 apply Nat.eq_of_testBit_eq
 intro i
 rw[Nat.testBit_mod_two_pow,Nat.testBit_mod_two_pow,Nat.testBit_div_two_pow,Nat.testBit_div_two_pow,W_bit]
 by_cases hi:i<8
 · rw[show 64*(3- k/8)+(i+8*(7- k % 8))=i+8*(31- k)by omega]
   simp only[show i+8*(7- k % 8)<64 by omega,decide_true,Bool.true_and]
 · simp only[hi,decide_false,Bool.false_and]
theorem infoId(cs:Array Value)(h:cs.size=32):(Tryz.prog.info? 26).map (·.size)=some cs.size:=by rw[h];kernel_rfl
structure Tot where
  h:List Int
  w:Nat
  n:Int
theorem Tot.ext'{a b:Tot}(h1:a.h=b.h)(h2:a.w=b.w)(h3:a.n=b.n):a=b:=by
 cases a;cases b;simp_all
instance:DecidableEq Tot:=fun a b=>decidable_of_iff (a.h=b.h∧a.w=b.w∧a.n=b.n) ⟨fun h=>Tot.ext' h.1 h.2.1 h.2.2,fun h=>by subst h;exact⟨rfl,rfl,rfl⟩⟩
def u64N(n:Int):Nat:=(IntKind.u64.wrap n).toNat
def partT(t:Tot):List Int:=t.h++(listF (bytesOf t.w)++putL (u64N t.n) 4)
def joinT(a b:Tot):Tot:=⟨sumL (3::(partT a++partT b)),(a.w+b.w) % Big,IntKind.i64.wrap (a.n+b.n)⟩
def noTot:Tot:=⟨sumL [4],0,0⟩
def carryT:Tot→List Tot→List Tot
  |x,[]=>[x]
  |x,y::r=>if x.n=y.n then carryT (joinT y x) r else x::y::r
def appT(p:List Tot)(x:Tot):List Tot:=(carryT x p.reverse).reverse
def upT:Tot→List Tot→Tot
  |x,[]=>x
  |x,y::r=>upT (joinT y x) r
def rootP(p:List Tot):Tot:=match p.reverse with
  |[]=>noTot
  |x::r=>upT x r
def peaksT(l:List Tot):List Tot:=l.foldl appT []
def seqAt(place:Nat→Option (Nat × Nat)):Nat→List (Nat × Value)→Prop
  |_,[]=>True
  |o,(i,v)::ps=>place i=some (o,v.cells.size)∧seqAt place (o+v.cells.size) ps
def cellsOfP(ps:List (Nat × Value)):List Value:=(ps.map fun p=>p.2.cells.toList).flatten
theorem fill_step(o:Nat)(v zs:Array Value)(hz:o+v.size≤zs.size):((v.toList.zipIdx 0).foldl (fun cs(x:Value × Nat)=>cs.setIfInBounds (o+x.2) x.1) zs).toList=zs.toList.take o++v.toList++zs.toList.drop (o+v.size):=by
 obtain⟨g1,g2⟩:=Great.foldl_set o v.toList 0 zs
 apply List.ext_getElem?
 intro k
 have hA:(zs.toList.take o).length=o:=by rw[List.length_take,Array.length_toList];omega
 have hAV:(zs.toList.take o++v.toList).length=o+v.size:=by rw[lA,hA,Array.length_toList]
 rw[Array.getElem?_toList,g2 k,Array.length_toList,Nat.add_zero]
 by_cases a1:k<o
 · rw[if_neg (by omega),List.getElem?_append_left (by omega),List.getElem?_append_left (by omega),List.getElem?_take_of_lt a1,Array.getElem?_toList]
 · by_cases a2:k<o+v.size
   · rw[if_pos (by omega),List.getElem?_append_left (by omega),List.getElem?_append_right (by omega),hA]
   · rw[if_neg (by omega),List.getElem?_append_right (by omega),hAV,List.getElem?_drop,Array.getElem?_toList]
     congr 1
     omega
theorem fill_seq{place:Nat→Option (Nat × Nat)}: ∀(ps:List (Nat × Value))(o:Nat)(zs:Array Value),seqAt place o ps→o+(cellsOfP ps).length≤zs.size→
  ∃r,Instr.fill place zs ps=some r∧r.toList=zs.toList.take o++cellsOfP ps++zs.toList.drop (o+(cellsOfP ps).length)
 |[],o,zs,_,_=>⟨zs,rfl,by simp[cellsOfP]⟩
 |(i,v)::ps,o,zs,h,hz=>by
  obtain⟨h1,h2⟩:=h
  have hl:(cellsOfP ((i,v)::ps)).length=v.cells.size+(cellsOfP ps).length:=by simp[cellsOfP]
  obtain⟨g1,g2⟩:=Great.foldl_set o v.cells.toList 0 zs
  have e1:v.cells.zipIdx.foldl (fun cs(x:Value × Nat)=>cs.setIfInBounds (o+x.2) x.1) zs=(v.cells.toList.zipIdx 0).foldl (fun cs(x:Value × Nat)=>cs.setIfInBounds (o+x.2) x.1) zs:=by rw[←Array.foldl_toList,Array.toList_zipIdx]
  obtain⟨r,hr,hrl⟩:=fill_seq ps (o+v.cells.size) ((v.cells.toList.zipIdx 0).foldl (fun cs(x:Value × Nat)=>cs.setIfInBounds (o+x.2) x.1) zs) h2 (by rw[g1];omega)
  refine⟨r,?_,?_⟩
  · unfold Instr.fill
    simp only[h1,e1]
    split
    · rename_i h
      simp at h
      omega
    · exact hr
  · have hc:cellsOfP ((i,v)::ps)=v.cells.toList++cellsOfP ps:=by simp[cellsOfP]
    rw[hrl,hc,fill_step o v.cells zs (by omega)]
    have hA:(zs.toList.take o++v.cells.toList).length=o+v.cells.size:=by
      rw[lA,List.length_take,Array.length_toList,Array.length_toList]
      omega
    have hd:(zs.toList.take o++v.cells.toList++zs.toList.drop (o+v.cells.size)).drop (o+v.cells.size+(cellsOfP ps).length)=zs.toList.drop (o+(v.cells.toList++cellsOfP ps).length):=by
      rw[List.drop_append,List.drop_of_length_le (by omega),List.nil_append,List.drop_drop,hA]
      congr 1
      have hvl:v.cells.toList.length=v.cells.size:=Array.length_toList
      simp only[lA,hvl]
      omega
    rw[hd,List.take_left' hA]
    simp only[aA]
theorem fill_all{place:Nat→Option (Nat × Nat)}{ps:List (Nat × Value)}{zs:Array Value}(h:seqAt place 0 ps)(hz:zs.size=(cellsOfP ps).length):Instr.fill place zs ps=some (cellsOfP ps).toArray:=by
 obtain⟨r,hr,hl⟩:=fill_seq ps 0 zs h (by omega)
 rw[hr]
 congr 1
 apply Array.ext'
 rw[hl]
 simp only[List.take_zero,List.nil_append,Nat.zero_add]
 rw[List.drop_of_length_le (by rw[Array.length_toList];omega),List.append_nil]
theorem built_struct{t:TypeId}{fields:Array Field}{places:List (Nat × Nat)}{n:Nat}(hu:Tryz.prog.underlying t=some (.struct fields))(hn:(Tryz.prog.info? t).map (fun i=>i.zero.map (·.cells.size))=some (some n))
  (hp:fields.toList.mapM (fun f=>(Tryz.prog.info? f.type).map fun i=>(f.offset,i.size))=some places) {ps:List (Nat × Value)} (h:seqAt (places.toArray[·]?) 0 ps) (hz:n=(cellsOfP ps).length):Tryz.prog.built t ps=some (cellsOfP ps).toArray:=by
 cases hq:Tryz.prog.info? t with
 |none=>rw[hq]at hn;cases hn
 | some it=>
  rw[hq]at hn
  simp only[Option.map_some,Option.some.injEq]at hn
  cases hzz:it.zero with
  |none=>rw[hzz]at hn;cases hn
  |some z=>
   rw[hzz]at hn
   simp only[Option.map_some,Option.some.injEq]at hn
   unfold Program.built
   simp only[hq,hu,hzz,hp]
   exact fill_all h (by omega)
def InI(r:Int):Prop:= -9223372036854775808≤r∧r≤9223372036854775807
theorem wrap64_in{r:Int}(h:InI r):IntKind.i64.wrap r=r:=by unfold InI at h;rw[IntKind.wrap_i64];omega
theorem oneInt: ∀w,(isAgg 3).run Tryz.prog w= .ok false w:=fun w=>by simp[isAgg,run_underlying underlying3]
theorem oneIds: ∀w,(isAgg 35).run Tryz.prog w= .ok false w:=fun w=>by simp[isAgg,run_underlying underlying35]
section
variable {a:Act}{dst:Option Tmp}{x y:Operand}{ty:TypeId}{pos:String}{after:Array Edge}{gd:Option (Nat × Bool)}
theorem sub_op{m k r:Int}(u:World)(hr:m- k=r)(hb:InI r)(hx:a.eval x= .int .i64 m)(hy:a.eval y= .int .i64 k):
  (execOp a.eval ⟨dst, .binOp .sub 3 x y 3,ty,pos,after,gd⟩).run Tryz.prog u= .ok (.value (.int .i64 r)) u:=by
 have hw:=wrap64_in hb
 subst hr
 unfold execOp
 simp only[hx,hy]
 go_simp
theorem add_op{m k r:Int}(u:World)(hr:m+k=r)(hb:InI r)(hx:a.eval x= .int .i64 m)(hy:a.eval y= .int .i64 k):
  (execOp a.eval ⟨dst, .binOp .add 3 x y 3,ty,pos,after,gd⟩).run Tryz.prog u= .ok (.value (.int .i64 r)) u:=by
 have hw:=wrap64_in hb
 subst hr
 unfold execOp
 simp only[hx,hy]
 go_simp
theorem geq_op{m k:Int}{b:Bool}(u:World)(hb:decide (k≤m)=b)(hx:a.eval x= .int .i64 m)(hy:a.eval y= .int .i64 k):
  (execOp a.eval ⟨dst, .binOp .geq 3 x y 3,ty,pos,after,gd⟩).run Tryz.prog u= .ok (.value (.bool b)) u:=by
 subst hb
 unfold execOp
 simp only[hx,hy]
 go_simp
theorem eqlI_op{m k:Int}{b:Bool}(u:World)(hb:decide (m=k)=b)(hx:a.eval x= .int .i64 m)(hy:a.eval y= .int .i64 k):
  (execOp a.eval ⟨dst, .binOp .eql 3 x y 3,ty,pos,after,gd⟩).run Tryz.prog u= .ok (.value (.bool b)) u:=by
 subst hb
 unfold execOp
 simp only[hx,hy]
 go_simp
 rfl
theorem buildA_op{t:TypeId}{parts:Array (Nat × Operand)}{cs:Array Value}(u:World)(hb:Tryz.prog.built t (parts.toList.map fun x=>(x.1,a.eval x.2))=some cs):
  (execOp a.eval ⟨dst, .build t parts,ty,pos,after,gd⟩).run Tryz.prog u= .ok (.value (.agg cs)) u:=by
 have hb':Tryz.prog.built t (parts.map fun(i,x)=>(i,a.eval x)).toList=some cs:=by
  rw[Array.toList_map]
  exact hb
 unfold execOp
 simp only[Sem.run_bind,Sem.run_pure,run_build u t _ _ hb',Result.andThen_ok]
end
def totC(t:Tot):List Value:=(arrB 32 t.h).toList++((wcs t.w).toList++[.int .i64 t.n])
def okT(t:Tot):Prop:=(t.h.length=32∧ ∀b∈t.h,0≤b∧b≤255)∧t.w<Big∧ -9223372036854775808≤t.n∧t.n≤9223372036854775807
def totA(t:Tot):Array Value:=(totC t).toArray
def totV(t:Tot):Value:= .agg (totA t)
def len32(t:Tot):Prop:=t.h.length=32
theorem idA_list{h:List Int}(hh:h.length=32):(arrB 32 h).toList.length=32:=by rw[Array.length_toList];exact arrB_size _ _ (by omega)
theorem wcs_list(w:Nat):(wcs w).toList.length=4:=by rw[Array.length_toList];exact wc_size w
theorem totC_len{t:Tot}(h:len32 t):(totC t).length=37:=by
 unfold totC
 rw[lA,lA,idA_list h,wcs_list]
 rfl
theorem totA_size{t:Tot}(h:len32 t):(totA t).size=37:=by unfold totA;rw[List.size_toArray,totC_len h]
theorem cell_of_all{a:Array Value}(h:a.all (·.oneCell')=true): ∀u∈a.toList,u.oneCell'=true:=fun u hu=>by
 obtain⟨i,hi,rfl⟩:=Array.mem_iff_getElem.1 (Array.mem_toList_iff.1 hu)
 exact Array.all_eq_true.1 h i hi
theorem totC_one(t:Tot): ∀u∈totC t,u.oneCell'=true:=by
 intro u hu
 unfold totC at hu
 rcases List.mem_append.1 hu with h|h
 · exact cell_of_all (arrB_one 32 _) u h
 · rcases List.mem_append.1 h with h|h
   · exact cell_of_all (wc_one _) u h
   · cases mS.1 h
     rfl
theorem totA_one(t:Tot):(totA t).all (·.oneCell')=true:=by
 rw[Array.all_eq_true]
 intro i hi
 exact totC_one t _ (show (totA t)[i]∈(totA t).toList from Array.mem_toList_iff.2 (Array.getElem_mem hi))
theorem aggTot:AggT 61 37:=⟨fun w=>by simp[isAgg,run_underlying underlying61],by kernel_rfl⟩
theorem aggWd:AggT 32 4:=⟨fun w=>by simp[isAgg,run_underlying underlying32],by kernel_rfl⟩
theorem aggIdT:AggT 26 32:=⟨fun w=>by simp[isAgg,run_underlying underlying26],by kernel_rfl⟩
def zTot:Tot:=⟨[],0,0⟩
theorem elTot:ElemT 38 61 37 72 (totV zTot):=⟨underlying38,by kernel_rfl,by decide+kernel,by decide,by decide,by decide⟩
theorem totC_H{t:Tot}(h:len32 t):((totA t).toList.drop 0).take 32=(arrB 32 t.h).toList:=by
 unfold totA totC
 rw[List.drop_zero,List.take_left' (idA_list h)]
theorem totC_W{t:Tot}(h:len32 t):((totA t).toList.drop 32).take 4=(wcs t.w).toList:=by
 unfold totA totC
 rw[List.drop_left' (idA_list h),List.take_left' (wcs_list _)]
theorem totC_N{t:Tot}(h:len32 t):(totA t)[36]?=some (.int .i64 t.n):=by
 unfold totA totC
 rw[List.getElem?_toArray,List.getElem?_append_right (by rw[idA_list h];omega),idA_list h,List.getElem?_append_right (by rw[wcs_list];omega),wcs_list]
 rfl
theorem agg_list(a:Array Value):Value.agg a.toList.toArray= .agg a:=by rw[Array.toArray_toList]
section
variable {w0 u:World}{M:Boxes}{g:Nat}{ty:TypeId}{t:Tot}
theorem box_tot(hu:EnvC w0 M u)(hm:(g,oc (totA t) ty)∈M)(h:len32 t):(loadVar 61 ⟨g,0,none⟩).run Tryz.prog u= .ok (totV t) u:=by
 have:=box_agg aggTot (k:=0) hu hm (totC t) (totC_len h) (by unfold totA;rw[List.drop_zero,tL (by rw[totC_len h];omega)])
 exact this
instance:Cell Tryz.prog (totA t) 61 0 (totV t) (len32 t):=⟨fun hu hm k=>box_tot hu hm k⟩
theorem box_totH(hu:EnvC w0 M u)(hm:(g,oc (totA t) ty)∈M)(h:len32 t):(loadVar 26 ⟨g,0,none⟩).run Tryz.prog u= .ok (idv t.h) u:=by
 have:=box_agg aggIdT (k:=0) hu hm _ (idA_list h) (totC_H h)
 rwa[agg_list]at this
instance:Cell Tryz.prog (totA t) 26 0 (idv t.h) (len32 t):=⟨fun hu hm k=>box_totH hu hm k⟩
theorem box_totW(hu:EnvC w0 M u)(hm:(g,oc (totA t) ty)∈M)(h:len32 t):(loadVar 32 ⟨g,32,none⟩).run Tryz.prog u= .ok (.agg (wcs t.w)) u:=by
 have:=box_agg aggWd (k:=32) hu hm _ (wcs_list _) (totC_W h)
 rwa[agg_list]at this
instance:Cell Tryz.prog (totA t) 32 32 (.agg (wcs t.w)) (len32 t):=⟨fun hu hm k=>box_totW hu hm k⟩
theorem box_totN(hu:EnvC w0 M u)(hm:(g,oc (totA t) ty)∈M)(h:len32 t):(loadVar 3 ⟨g,36,none⟩).run Tryz.prog u= .ok (.int .i64 t.n) u:=
 run_load_one oneInt u (box_cell hu hm (totC_N h))
instance:Cell Tryz.prog (totA t) 3 36 (.int .i64 t.n) (len32 t):=⟨fun hu hm k=>box_totN hu hm k⟩
end
theorem built_tot{h:List Int}{w:Nat}{n:Int}(hh:h.length=32):Tryz.prog.built 61 [(0,idv h),(1, .agg (wcs w)),(2, .int .i64 n)]=some (totA ⟨h,w,n⟩):=by
 have hs:(arrB 32 h).size=32:=arrB_size _ _ (by omega)
 have hw:=wc_size w
 have e:cellsOfP [(0,idv h),(1, .agg (wcs w)),(2, .int .i64 n)]=totC ⟨h,w,n⟩:=by simp[cellsOfP,totC,idv,Value.cells]
 have:=built_struct (t:=61) (n:=37) underlying61 (by kernel_rfl) (places:=[(0,32),(32,4),(36,1)]) (by kernel_rfl) (ps:=[(0,idv h),(1, .agg (wcs w)),(2, .int .i64 n)]) (by
  refine⟨?_,?_,?_,trivial⟩
  · show some (0,32)=some (0,(arrB 32 h).size)
    rw[hs]
  · show some (32,4)=some (0+(arrB 32 h).size,(wcs w).size)
    rw[hs,hw]
  · show some (36,1)=some (0+(arrB 32 h).size+(wcs w).size,1)
    rw[hs,hw]) (by rw[e,totC_len (t:=⟨h,w,n⟩) hh])
 rw[this,e]
 rfl
def TotsIn(w:World)(B:Nat)(A:Option Addr)(l:List Tot):Prop:=CellsIn w B A (l.map totC).flatten
def okTs(l:List Tot):Prop:= ∀t∈l,okT t
theorem okT.len{t:Tot}(h:okT t):len32 t:=h.1.1
theorem rowsT{l:List Tot}(h:okTs l):isRows 37 (l.map totC):=fun x hx=>by
 obtain⟨t,ht,rfl⟩:=List.mem_map.1 hx
 exact totC_len (h t ht).len
theorem okTs.get{l:List Tot}(h:okTs l){i:Nat}(hi:i<l.length):okT (l.getD i noTot):=by
 rw[gD,gE hi]
 exact h _ (List.getElem_mem hi)
theorem okTs.take{l:List Tot}(h:okTs l)(k:Nat):okTs (l.take k):=fun x hx=>h x (List.mem_of_mem_take hx)
theorem tots_cells{w:World}{B:Nat}{A:Option Addr}{l:List Tot}(h:TotsIn w B A l)(hl:okTs l){i:Nat}(hi:i<l.length):
  ∃ad,A=some ad∧ad.block<B∧ ∀j v,(totC (l.getD i noTot))[j]?=some v→w.cell? ((ad.add (i*37)).add j)=some v:=by
 have hR:=rowsT hl
 have hfl:=hR.flat_len
 rw[lM]at hfl
 obtain⟨ad,e,hb,hc⟩:=h (by rw[hfl];omega)
 refine⟨ad,e,hb,fun j v hv=>?_⟩
 rw[add_addN]
 refine hc (i*37+j) v ?_
 have hj:j<37:=by
  rcases Nat.lt_or_ge j 37 with h'|h'
  · exact h'
  · rw[gN (by rw[totC_len (hl.get hi).len];exact h')]at hv
    cases hv
 rw[hR.flat_get i j (by rw[lM];exact hi) hj]
 rw[gD,List.getElem?_map,gE hi]
 rw[gD,gE hi]at hv
 exact hv
theorem TotsIn.loads{w:World}{A:Option Addr}{l:List Tot}(h:TotsIn w w.heap.size A l)(hl:okTs l){k:Nat}(hk:k<l.length): ∃ad,A=some ad∧ ∀u,EnvX w u []→
   (loadVar 61 (ad.add (k*37))).run Tryz.prog u= .ok (totV (l.getD k noTot)) u∧
   (loadVar 26 (ad.add (k*37))).run Tryz.prog u= .ok (idv (l.getD k noTot).h) u∧
   (loadVar 32 ((ad.add (k*37)).add 32)).run Tryz.prog u= .ok (.agg (wcs (l.getD k noTot).w)) u∧
   (loadVar 3 ((ad.add (k*37)).add 36)).run Tryz.prog u= .ok (.int .i64 (l.getD k noTot).n) u:=by
 obtain⟨ad,e,hb,hc⟩:=tots_cells h hl hk
 refine⟨ad,e,fun u hu=>?_⟩
 have h32:=(hl.get hk).len
 have hbl: ∀(a:Addr)(j:Nat),(a.add j).block=a.block:=fun a j=>by unfold Addr.add;split<;>rfl
 have hcu: ∀j v,(totC (l.getD k noTot))[j]?=some v→u.cell? ((ad.add (k*37)).add j)=some v:=fun j v hv=>by
   rw[←hc j v hv]
   exact(EnvX.bel hu).cell (by rw[hbl,hbl];exact hb)
 have hadd0: ∀a:Addr,a.add 0=a:=fun a=>by unfold Addr.add;rfl
 generalize l.getD k noTot=t at *
 refine⟨run_loadAgg aggTot (totC t) (totC_len h32) hcu,?_,?_,?_⟩
 · have:=run_loadAgg aggIdT (w:=u) (ad:=ad.add (k*37)) _ (idA_list h32) (fun j v hv=>hcu j v (by
    unfold totC
    rw[List.getElem?_append_left (by
     rcases Nat.lt_or_ge j (arrB 32 t.h).toList.length with h'|h'
     · exact h'
     · rw[gN h']at hv;cases hv)]
    exact hv))
   rwa[agg_list]at this
 · have:=run_loadAgg aggWd (w:=u) (ad:=(ad.add (k*37)).add 32) _ (wcs_list t.w) (fun j v hv=>by
    rw[add_addN]
    refine hcu (32+j) v ?_
    unfold totC
    have hj:j<(wcs t.w).toList.length:=by
     rcases Nat.lt_or_ge j (wcs t.w).toList.length with h'|h'
     · exact h'
     · rw[gN h']at hv;cases hv
    rw[List.getElem?_append_right (by rw[idA_list h32];omega),idA_list h32,List.getElem?_append_left (by omega),show 32+j- 32=j by omega]
    exact hv)
   rwa[agg_list]at this
 · refine run_load_one oneInt u (hcu 36 _ ?_)
   have:=totC_N h32
   unfold totA at this
   rwa[List.getElem?_toArray]at this
theorem run_equalIn_id(d:Nat)(xs ys:List Int)(hx:xs.length=32)(hy:ys.length=32)(w:World):(Op.equalIn (d+2) 26 (.agg (arrB 32 xs)) (.agg (arrB 32 ys))).run Tryz.prog w= .ok (eqL xs ys) w:=by
 cases hq:Tryz.prog.info? 5 with
 |none=>have:=infoB;rw[hq]at this;cases this
 |some i=>
  have h:=run_equalIn_array (P:=Tryz.prog) w (d+1) (arrB 32 xs) (arrB 32 ys) underlying26 hq
  rw[cellsB,run_items d xs ys hx hy w (List.range 32) (by simp)]at h
  have e:decide (∀i∈List.range 32,xs.getD i 0=ys.getD i 0)=eqL xs ys:=decide_eq_decide.2 (list_eq_iff xs ys hx hy)
  rw[e]at h
  exact h
theorem run_equalIn_wide(d:Nat)(m n:Nat)(hm:m<Big)(hn:n<Big)(w:World):(Op.equalIn (d+2) 32 (.agg (wcs m)) (.agg (wcs n))).run Tryz.prog w= .ok (eqN m n) w:=by
 cases hq:Tryz.prog.info? 24 with
 |none=>
  have:(Tryz.prog.info? 24).isSome=true:=by kernel_rfl
  rw[hq]at this
  cases this
 |some i=>
  have h:=run_equalIn_array (P:=Tryz.prog) w (d+1) (wcs m) (wcs n) underlying32 hq
  rw[cellsU64,run_itemsW d m n w (List.range 4) (by simp)]at h
  have e:decide (∀i∈List.range 4,W m i=W n i)=eqN m n:=decide_eq_decide.2 (words_eq_iff m n hm hn)
  rw[e]at h
  exact h
theorem run_part_agg{e:TypeId}{z:Nat}(D:AggT e z){cs v:Array Value}{off:Nat}(hv:cs.extract off (off+z)=v)(w:World):(part e cs off).run Tryz.prog w= .ok (.agg v) w:=by
 have hs:=D.size
 cases hq:Tryz.prog.info? e with
 |none=>rw[hq]at hs;cases hs
 |some k=>
  rw[hq]at hs
  simp only[Option.map_some,Option.some.injEq]at hs
  have hsz:(sizeOf e).run Tryz.prog w= .ok z w:=by simp[sizeOf,typeInfo,hq,hs]
  simp[part,D.agg,hsz,hv]
theorem ext_list{a:Array Value}{k z:Nat}{l:List Value}(h:(a.toList.drop k).take z=l):a.extract k (k+z)=l.toArray:=by
 apply Array.ext'
 rw[Array.toList_extract,←h]
 simp[List.extract_eq_take_drop]
theorem eqFields_step{d:Nat}{xs ys:Array Value}{f:Field}{fs:List Field}{w:World}{a b:Value}{r:Bool}(hn:f.name≠ "_")(pa:(part f.type xs f.offset).run Tryz.prog w= .ok a w)(pb:(part f.type ys f.offset).run Tryz.prog w= .ok b w)
  (hr:(Op.equalIn d f.type a b).run Tryz.prog w= .ok r w):(Op.eqFields d xs ys (f::fs)).run Tryz.prog w=if r=true then (Op.eqFields d xs ys fs).run Tryz.prog w else .ok false w:=by
 rw[Op.eqFields,if_pos hn]
 simp only[Sem.run_bind,pa,pb,hr,Result.andThen_ok]
 cases r with
 |false=>rfl
 |true=>rfl
theorem elB:ElemT 100 5 1 1 (.int .u8 0):=⟨underlying100,by kernel_rfl,rfl,by decide,by decide,by decide⟩
section
variable {a:Act}{dst:Option Tmp}{x:Operand}{ty:TypeId}{pos:String}{after:Array Edge}{gd:Option (Nat × Bool)}
theorem sliceArr_op{ad:Addr}(u:World)(hx:a.eval x= .pointer (some ad)):
  (execOp a.eval ⟨dst, .slice 26 x none none none,ty,pos,after,gd⟩).run Tryz.prog u= .ok (.value (.slice (some ad) 32 32)) u:=by
 unfold execOp
 simp only[hx]
 go_simp
end
end Go.Proofs.YtojmeodoenkapaaGreatDoor
