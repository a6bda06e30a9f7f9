/- Part of a proof. -/
import Derived.Test.YtojmeodoenkapaaGreatDoorRows
import Derived.WalkKit
import Derived.ProofKit
import Derived.OpenShut
import Derived.ChangeOld
import Derived.Below
import Derived.Deep.DeepHandedRow
import Derived.LaidLaws
import Derived.Deep.Draws
import Derived.Laws.Rows
import Derived.Laws.Tables
import Derived.Deep.WholeRow
import Derived.Test.YtojmeodoenkapaaGreatDoorProg
import Derived.Handy
import Derived.Maps.AppendAt
import Derived.Laws.BytesArg
import Derived.Laws.StructEq
import Derived.ChangeKeysEq
import Derived.Lib.SlBytesConst
import Derived.Deep.MidRow
import Derived.Laws.CopyOwn
import Derived.Laws.MakeOwn
import Derived.Deep.Cut
import Derived.Deep.QuietTactic
import Derived.BigQuiet
import Derived.StillTailTactics
import Derived.Lib.Hide
import Derived.Deep.Slices
import Derived.Test.YtojmeodoenkapaaGreatDoorCards
import Derived.Test.YtojmeodoenkapaaGreatDoorTie
import Derived.Lib.LaidTab
open Go.Proofs.Tryz
namespace Go.Proofs.YtojmeodoenkapaaGreatDoor
set_option maxRecDepth 20000
set_option maxHeartbeats 8000000
set_option linter.unusedVariables false
set_option linter.unusedSimpArgs false
open Go.ChangeShapes Go.WideShapes Go.ChangeAt Go.RowKit
theorem own:ownKnob Tryz.prog.godebug=none:=by kernel_rfl
theorem laidOut:laidOutB Tryz.prog=true:=by kernel_rfl
open Go Go.RowKit
theorem below_drewN{B:Nat}{a w:World}(h:Below B a w)(n:Nat):Below B a (w.drewN n):=⟨h.os,h.tape,h.output,h.size,h.block⟩
def Row(w:World)(g:Nat)(t:TypeId)(cs:Array Value):Prop:=w.heap[g]?=some (.cells cs t (0,0))
theorem Row.lt{w:World}{g:Nat}{t:TypeId}{cs:Array Value}(h:Row w g t cs):g<w.heap.size:=by
 rcases Nat.lt_or_ge g w.heap.size with hl|hl
 · exact hl
 · unfold Row at h
   rw[Array.getElem?_eq_none hl]at h
   cases h
theorem Row.cell{w:World}{g:Nat}{t:TypeId}{cs:Array Value}(h:Row w g t cs)(i:Nat):w.cell? ⟨g,i,none⟩=cs[i]?:=cell_of_row w g i cs t (0,0) h
theorem Row.frozen{w:World}{g:Nat}{t:TypeId}{cs:Array Value}(h:Row w g t cs)(i:Nat):w.frozen? ⟨g,i,none⟩=false:=by
 unfold Row at h
 simp[World.frozen?,h]
theorem Row.new(w:World)(t:TypeId)(cs:Array Value):Row (w.alloc (.cells cs t)) w.heap.size t cs:=by
 show (w.heap.push _)[w.heap.size]?=_
 simp
theorem Row.newAt{w:World}{g:Nat}(h:w.heap.size=g)(t:TypeId)(cs:Array Value):Row (w.alloc (.cells cs t)) g t cs:=h ▸ Row.new w t cs
theorem Row.drewN{w:World}{g:Nat}{t:TypeId}{cs:Array Value}(h:Row w g t cs)(n:Nat):Row (w.drewN n) g t cs:=h
theorem Row.drew{w:World}{g:Nat}{t:TypeId}{cs:Array Value}(h:Row w g t cs):Row w.drew g t cs:=h
theorem Row.alloc{w:World}{g:Nat}{t:TypeId}{cs:Array Value}(h:Row w g t cs)(o:Obj):Row (w.alloc o) g t cs:=(Below.heap_alloc w o g h.lt).trans h
theorem Row.put{w:World}{g:Nat}{t:TypeId}{cs:Array Value}(h:Row w g t cs)(i:Nat)(u:Value):Row (w.setCell ⟨g,i,none⟩ u) g t (cs.setIfInBounds i u):=by
 unfold Row at h ⊢
 simp[World.setCell,Array.getElem?_modify,h]
theorem Row.far{w:World}{g:Nat}{t:TypeId}{cs:Array Value}(h:Row w g t cs){p:Addr}(hp:g≠p.block)(u:Value):Row (w.setCell p u) g t cs:=(Below.heap_setCell w p u g hp).trans h
theorem Row.farAt{w:World}{g:Nat}{t:TypeId}{cs:Array Value}(h:Row w g t cs){g' i:Nat}(hp:g≠g')(u:Value):Row (w.setCell ⟨g',i,none⟩ u) g t cs:=h.far hp u
theorem Row.below{w w':World}{B g:Nat}{t:TypeId}{cs:Array Value}(h:Row w g t cs)(hb:Below B w w')(hg:g<B):Row w' g t cs:=(hb.block g hg).trans h
theorem Row.setRow{w:World}{g:Nat}{t:TypeId}{cs cs':Array Value}(h:Row w g t cs):Row (w.setRow g cs') g t cs':=setRow_heap w g cs cs' t (0,0) h
theorem Row.setRowFar{w:World}{g g':Nat}{t:TypeId}{cs cs':Array Value}(h:Row w g t cs)(hg:g≠g'):Row (w.setRow g' cs') g t cs:=(setRow_other w g' g cs' hg).trans h
theorem below_setRow{B:Nat}{a w:World}(h:Below B a w){g:Nat}(hg:B≤g)(cs:Array Value):Below B a (w.setRow g cs):=
 ⟨h.os,h.tape,h.output,by simpa [World.setRow] using h.size,fun i hi=>(setRow_other w g i cs (by omega)).trans (h.block i hi)⟩
theorem size_setRow(w:World)(g:Nat)(cs:Array Value):(w.setRow g cs).heap.size=w.heap.size:=by simp[World.setRow]
def u8v(n:Int):Value:= .int .u8 n
def arrB(n:Nat)(l:List Int):Array Value:=((l++List.replicate (n- l.length) 0).map u8v).toArray
theorem arrB_size(n:Nat)(l:List Int)(h:l.length≤n):(arrB n l).size=n:=by simp[arrB];omega
theorem arrB_one(n:Nat)(l:List Int):(arrB n l).all (·.oneCell')=true:=by
 simp only[arrB,List.all_toArray,List.all_map,List.all_eq_true,Function.comp]
 exact fun _ _=>rfl
theorem arrB_get(n:Nat)(l:List Int)(i:Nat)(h:l.length≤n)(hi:i<n):(arrB n l)[i]?=some (.int .u8 (l.getD i 0)):=by
 unfold arrB
 simp only[List.getElem?_toArray,List.getElem?_map]
 by_cases hl:i<l.length
 · rw[List.getElem?_append_left hl,List.getElem?_eq_getElem hl]
   simp[u8v,List.getD,List.getElem?_eq_getElem hl]
 · rw[List.getElem?_append_right (by omega),List.getElem?_replicate,if_pos (by omega)]
   simp[u8v,List.getD,List.getElem?_eq_none (by omega:l.length≤i)]
theorem arrB_ext(n:Nat)(l:List Int)(cs:Array Value)(h:l.length≤n)(hs:cs.size=n)(hg: ∀i,i<n→cs[i]?=some (.int .u8 (l.getD i 0))):cs=arrB n l:=by
 apply Array.ext_getElem?
 intro i
 by_cases hi:i<n
 · rw[hg i hi,arrB_get n l i h hi]
 · rw[Array.getElem?_eq_none (by omega),Array.getElem?_eq_none (by rw[arrB_size n l h];omega)]
theorem arrB_put(n:Nat)(l:List Int)(v:Int)(h:l.length<n):(arrB n l).setIfInBounds l.length (.int .u8 v)=arrB n (l++[v]):=by
 apply arrB_ext
 · simp;omega
 · rw[Array.size_setIfInBounds,arrB_size n l (by omega)]
 · intro i hi
   rw[Array.getElem?_setIfInBounds,arrB_size n l (by omega)]
   by_cases e:l.length=i
   · subst e;simp[h]
   · rw[if_neg e,arrB_get n l i (by omega) hi]
     congr 2
     by_cases hl:i<l.length
     · simp[List.getD,List.getElem?_append_left hl]
     · simp[List.getD,List.getElem?_eq_none (by omega:l.length≤i),List.getElem?_eq_none (by simp;omega:(l++[v]).length≤i)]
theorem arrB_put_at(n:Nat)(l:List Int)(v:Int)(k:Nat)(hk:l.length=k)(h:k<n):(arrB n l).setIfInBounds k (.int .u8 v)=arrB n (l++[v]):=by
 subst hk
 exact arrB_put n l v h
def u64v(n:Int):Value:= .int .u64 n
def arrW(n:Nat)(l:List Int):Array Value:=((l++List.replicate (n- l.length) 0).map u64v).toArray
theorem arrW_size(n:Nat)(l:List Int)(h:l.length≤n):(arrW n l).size=n:=by simp[arrW];omega
theorem arrW_one(n:Nat)(l:List Int):(arrW n l).all (·.oneCell')=true:=by
 simp only[arrW,List.all_toArray,List.all_map,List.all_eq_true,Function.comp]
 exact fun _ _=>rfl
theorem arrW_get(n:Nat)(l:List Int)(i:Nat)(h:l.length≤n)(hi:i<n):(arrW n l)[i]?=some (.int .u64 (l.getD i 0)):=by
 unfold arrW
 simp only[List.getElem?_toArray,List.getElem?_map]
 by_cases hl:i<l.length
 · rw[List.getElem?_append_left hl,List.getElem?_eq_getElem hl]
   simp[u64v,List.getD,List.getElem?_eq_getElem hl]
 · rw[List.getElem?_append_right (by omega),List.getElem?_replicate,if_pos (by omega)]
   simp[u64v,List.getD,List.getElem?_eq_none (by omega:l.length≤i)]
theorem arrW_ext(n:Nat)(l:List Int)(cs:Array Value)(h:l.length≤n)(hs:cs.size=n)(hg: ∀i,i<n→cs[i]?=some (.int .u64 (l.getD i 0))):cs=arrW n l:=by
 apply Array.ext_getElem?
 intro i
 by_cases hi:i<n
 · rw[hg i hi,arrW_get n l i h hi]
 · rw[Array.getElem?_eq_none (by omega),Array.getElem?_eq_none (by rw[arrW_size n l h];omega)]
theorem arrW_put(n:Nat)(l:List Int)(v:Int)(h:l.length<n):(arrW n l).setIfInBounds l.length (.int .u64 v)=arrW n (l++[v]):=by
 apply arrW_ext
 · simp;omega
 · rw[Array.size_setIfInBounds,arrW_size n l (by omega)]
 · intro i hi
   rw[Array.getElem?_setIfInBounds,arrW_size n l (by omega)]
   by_cases e:l.length=i
   · subst e;simp[h]
   · rw[if_neg e,arrW_get n l i (by omega) hi]
     congr 2
     by_cases hl:i<l.length
     · simp[List.getD,List.getElem?_append_left hl]
     · simp[List.getD,List.getElem?_eq_none (by omega:l.length≤i),List.getElem?_eq_none (by simp;omega:(l++[v]).length≤i)]
theorem arrW_put_at(n:Nat)(l:List Int)(v:Int)(k:Nat)(hk:l.length=k)(h:k<n):(arrW n l).setIfInBounds k (.int .u64 v)=arrW n (l++[v]):=by
 subst hk
 exact arrW_put n l v h
theorem results_row_slot{P:Program}{fn:Func}{p q:Tmp}{ty:TypeId}(h:fn.results= #[.cell p ty, .tmp q])(tmps:Array Value)(w:World)(g:Nat)(t:TypeId)(cs:Array Value)(fr:Nat × Nat)(d:TypeDesc)
  (hp:tmps.getD p undef= .pointer (some ⟨g,0,none⟩)) (v:Value) (hv:tmps.getD q undef=v) (hg:w.heap[g]?=some (.cells cs t fr))
  (hu:P.underlying ty=some d) (hd:(match d with| .struct _| .array _ _=>true|_=>false)=true) (hi:(P.info? ty).map (·.size)=some cs.size):
  (results fn tmps).run P w= .ok (.tuple #[.agg cs,v]) w:=by
 have hp':tmps[p]?.getD undef= .pointer (some ⟨g,0,none⟩):=by simpa using hp
 have hv':tmps[q]?.getD undef=v:=by simpa using hv
 simp[results,h,hp',hv',asAddr,run_loadVar_row w g t ty cs fr d hg hu hd hi]
theorem results_rows_slot{P:Program}{fn:Func}{p p' q:Tmp}{ty:TypeId}(h:fn.results= #[.cell p ty, .cell p' ty, .tmp q])(tmps:Array Value)(w:World)(g g':Nat)(t:TypeId)(cs cs':Array Value)(fr:Nat × Nat)(d:TypeDesc)
  (hp:tmps.getD p undef= .pointer (some ⟨g,0,none⟩)) (hp':tmps.getD p' undef= .pointer (some ⟨g',0,none⟩)) (v:Value) (hv:tmps.getD q undef=v) (hg:w.heap[g]?=some (.cells cs t fr)) (hg':w.heap[g']?=some (.cells cs' t fr))
  (hu:P.underlying ty=some d) (hd:(match d with| .struct _| .array _ _=>true|_=>false)=true) (hi:(P.info? ty).map (·.size)=some cs.size) (hi':(P.info? ty).map (·.size)=some cs'.size):
  (results fn tmps).run P w= .ok (.tuple #[.agg cs, .agg cs',v]) w:=by
 have hp1:tmps[p]?.getD undef= .pointer (some ⟨g,0,none⟩):=by simpa using hp
 have hp2:tmps[p']?.getD undef= .pointer (some ⟨g',0,none⟩):=by simpa using hp'
 have hv':tmps[q]?.getD undef=v:=by simpa using hv
 simp[results,h,hp1,hp2,hv',asAddr,run_loadVar_row w g t ty cs fr d hg hu hd hi,run_loadVar_row w g' t ty cs' fr d hg' hu hd hi']
open Go.RowKit
theorem block_of_add(a:Addr)(n:Nat):(a.add n).block=a.block:=by unfold Addr.add;split<;>rfl
theorem infoB:(Tryz.prog.info? 5).map (fun i=>(i.zero,i.size,i.bytes))=some (some (.int .u8 0),1,1):=by kernel_rfl
theorem cellsB:Tryz.prog.cellsOf 5=1:=by kernel_rfl
theorem made_bytes(m:Nat):madeCells #[.int .u8 0] m=arrB m []:=by
 apply arrB_ext
 · simp
 · exact size_madeCells _ _
 · intro i hi
   have e:i % 1=0:=by omega
   simp[madeCells,hi,e]
theorem make_bytes(m:Nat)(hm:m≤140737488355328)(w:World):(Instr.makeSlice 100 (.int .i64 (m:Int)) (.int .i64 (m:Int))).run Tryz.prog w= .ok (.slice (some ⟨w.heap.size,0,none⟩) m m) (w.alloc (.cells (arrB m []) 5)):=by
 cases hq:Tryz.prog.info? 5 with
 |none=>have:=infoB;rw[hq]at this;cases this
 |some i=>
  have h:=infoB
  rw[hq]at h
  simp only[Option.map_some,Option.some.injEq,Prod.mk.injEq]at h
  obtain⟨h1,h2,h3⟩:=h
  have hr:=run_make (P:=Tryz.prog) w 100 5 i _ underlying100 hq h1 .i64 .i64 (m:Int) (m:Int) (by omega) (by omega) (by rw[h3];omega) (by omega)
  simp only[Int.toNat_natCast,h2,Nat.mul_one]at hr
  rw[←made_bytes]
  exact hr
def Bytes(w:World)(B:Nat)(A:Option Addr)(xs:List Int):Prop:=0<xs.length→ ∃ad,A=some ad∧ad.block<B∧ ∀j v,(xs.map u8v)[j]?=some v→w.cell? (ad.add j)=some v
theorem Bytes.nil(w:World)(B:Nat)(A:Option Addr):Bytes w B A []:=fun h=>absurd h (by decide)
theorem Bytes.below{w w':World}{B:Nat}{A:Option Addr}{xs:List Int}(h:Bytes w B A xs)(hb:Below B w w'):Bytes w' B A xs:=by
 intro hp
 obtain⟨ad,e,hlt,hc⟩:=h hp
 exact⟨ad,e,hlt,fun j v hv=>(hb.cell (by rw[block_of_add];exact hlt)).trans (hc j v hv)⟩
theorem Bytes.more{w:World}{B B':Nat}{A:Option Addr}{xs:List Int}(h:Bytes w B A xs)(hB:B≤B'):Bytes w B' A xs:=fun hp=>by
 obtain⟨ad,e,hlt,hc⟩:=h hp
 exact⟨ad,e,Nat.lt_of_lt_of_le hlt hB,hc⟩
theorem Bytes.up{w w':World}{A:Option Addr}{xs:List Int}(h:Bytes w w.heap.size A xs)(hb:Below w.heap.size w w'):Bytes w' w'.heap.size A xs:=(h.below hb).more hb.size
theorem Bytes.take{w:World}{B:Nat}{A:Option Addr}{xs:List Int}(h:Bytes w B A xs)(k:Nat):Bytes w B A (xs.take k):=by
 intro hp
 obtain⟨ad,e,hlt,hc⟩:=h (by simp at hp;omega)
 refine⟨ad,e,hlt,fun j v hv=>hc j v ?_⟩
 rw[List.map_take,List.getElem?_take]at hv
 split at hv
 · exact hv
 · cases hv
theorem Bytes.cell{w:World}{B:Nat}{A:Option Addr}{xs:List Int}(h:Bytes w B A xs)(j:Nat)(hj:j<xs.length): ∃ad,A=some ad∧w.cell? (ad.add j)=some (.int .u8 (xs.getD j 0)):=by
 obtain⟨ad,e,_,hc⟩:=h (by omega)
 refine⟨ad,e,hc j _ ?_⟩
 simp[List.getD,List.getElem?_eq_getElem hj,u8v]
def Parts(w:World)(B:Nat)(A:Option Addr)(xss:List (List Int)):Prop:=
  ∀(k:Nat)(xs:List Int),xss[k]?=some xs→ ∃(b o:Nat)(a:Option Addr)(c:Nat),A=some ⟨b,o,none⟩∧b<B∧w.cell? ⟨b,o+k,none⟩=some (.slice a xs.length c)∧Bytes w B a xs∧ ∀x∈xs,0≤x∧x≤255
theorem Parts.nil(w:World)(B:Nat)(A:Option Addr):Parts w B A []:=fun k xs h=>by simp at h
theorem Parts.below{w w':World}{B:Nat}{A:Option Addr}{xss:List (List Int)}(h:Parts w B A xss)(hb:Below B w w'):Parts w' B A xss:=by
 intro k xs hk
 obtain⟨b,o,a,c,e,hlt,hc,hx,hr⟩:=h k xs hk
 exact⟨b,o,a,c,e,hlt,(hb.cell (p:=⟨b,o+k,none⟩) hlt).trans hc,hx.below hb,hr⟩
theorem append_bytes (base:Nat) (v:Value) (n:Nat) (l:List Value) (w:World) (hown:w.ownsRow base 5 1 v n l) (A:Option Addr) (m c B:Nat) (ys:List Int) (hl:ys.length=m) (hy:Bytes w B A ys)
  (hs:n+m≤70368744177664) (hbase:base≤w.heap.size):
  ∃v' w',(Builtin.append_ #[100,100] 100 #[v, .slice A m c]).run Tryz.prog w= .ok v' w'∧w'.ownsRow base 5 1 v' (n+m) (l++ys.map u8v)∧w.grownBy w' v.ownBlock:=by
 cases hq:Tryz.prog.info? 5 with
 |none=>have:=infoB;rw[hq]at this;cases this
 | some i =>
  have h:=infoB
  rw[hq]at h
  simp only[Option.map_some,Option.some.injEq,Prod.mk.injEq]at h
  obtain⟨h1,h2,h3⟩:=h
  cases A with
  |none=>
   have hm:m=0:=by
     rcases Nat.eq_zero_or_pos m with h0|h0
     · exact h0
     · obtain⟨ad,e,_⟩:=hy (by omega)
       cases e
   subst hm
   obtain rfl:ys=[]:=List.eq_nil_of_length_eq_zero hl
   refine⟨v,w,?_,by simpa using hown,World.grownBy.refl w _⟩
   rcases hown.2 with ⟨rfl,rfl⟩|⟨g,cap,cur,rfl,_,_,hnc,_⟩
   · simp[Builtin.append_,run_underlying underlying100,sizeOf,typeInfo,hq,Builtin.lenOf,Builtin.firstCells]
   · simp[Builtin.append_,run_underlying underlying100,sizeOf,typeInfo,hq,Builtin.lenOf,Builtin.firstCells,hnc,storeCells]
  |some ad=>
   obtain ⟨v',w',hrun,hown',hg,_⟩:=run_append_own_at (P:=Tryz.prog) w base 100 100 5 i _ 1 1 underlying100 hq h1 h2 h3 rfl (by omega) v n l hown ad m c (ys.map u8v) (by simp[hl]) (fun j u hu=>by
       have hp:0<ys.length:=by
        rcases Nat.eq_zero_or_pos ys.length with h0|h0
        · obtain rfl:=List.eq_nil_of_length_eq_zero h0
          simp at hu
        · exact h0
       obtain⟨ad',e,_,hc⟩:=hy hp
       obtain rfl:=Option.some.inj e
       exact hc j u hu) (by intro u hu;obtain⟨z,_,rfl⟩:=List.mem_map.1 hu;rfl) (by unfold maxLen;omega) (by omega) hbase
   exact⟨v',w',hrun,hown',hg⟩
theorem wpList_append_run{P:Program}{ops:Array Oper}{rest:List Oper}{o:Oper}{a:Act}{w w':World}{Q:Exit→Act→World→Prop}{v y v':Value}{t:TypeId}(hgd:o.guard=none)(s x:Operand)
  (ho:o.op= .call {callee:= .builtin .append,args:= #[s,x],argTypes:= #[t,t]}) (hty:o.type=t) (hs:a.eval s=v) (hx:a.eval x=y)
  (hrun:(Builtin.append_ #[t,t] t #[v,y]).run P w= .ok v' w') (h:wpList P ops Q rest (a.put o.dst v') w'):wpList P ops Q (o::rest) a w:=
 wpList_plain hgd fun _ hK=>by
  unfold Oper.wp execOp
  simp only[ho,hty,resolve,invoke,builtin,Sem.run_bind,Sem.run_pure,Result.andThen_ok,List.map_toArray,List.map_cons,List.map_nil,hs,hx,hrun]
  exact hK _ _ h
theorem below_of_grown{B:Nat}{a b:World}{row:Option Nat}(h:a.grownBy b row)(hr: ∀g,row=some g→B≤g)(hB:B≤a.heap.size):Below B a b:=
 ⟨h.os,h.tape,h.output,h.size,fun i hi=>h.block i (by omega) (fun e=>by have:=hr i e.symm;omega)⟩
def OwnB(w:World)(B:Nat)(v:Value)(xs:List Int):Prop:=w.ownsRow B 5 1 v xs.length (xs.map u8v)
theorem OwnB.nil(w:World)(B:Nat):OwnB w B (.slice none 0 0) []:=World.ownsRow_nil _ _ _ _
theorem OwnB.bytes{w:World}{B n c:Nat}{A:Option Addr}{xs:List Int}(h:OwnB w B (.slice A n c) xs):xs.length=n∧Bytes w w.heap.size A xs:=by
 rcases h.2 with ⟨e,e2⟩|⟨g,cap,cur,e,_,hg,_⟩
 · injection e with e1 e3 e4
   refine⟨by omega,fun hp=>by omega⟩
 · injection e with e1 e2 e3
   subst e1
   refine⟨e2.symm,fun hp=>⟨_,rfl,?_,fun j v hv=>h.cells (g:=g) rfl j v hv⟩⟩
   exact Row.lt (t:=5) hg
theorem OwnB.below{w w':World}{B:Nat}{v:Value}{xs:List Int}(h:OwnB w B v xs)(hb:Below w.heap.size w w'):OwnB w' B v xs:=by
 refine⟨h.1,?_⟩
 rcases h.2 with h0|⟨g,cap,cur,e,hg,hh,h1⟩
 · exact .inl h0
 · exact .inr ⟨g,cap,cur,e,hg,(hb.block g (Row.lt (t:=5) hh)).trans hh,h1⟩
theorem OwnB.append{w:World}{B:Nat}{v:Value}{xs:List Int}(h:OwnB w B v xs){A:Option Addr}{m c B':Nat}{ys:List Int}(hl:ys.length=m)(hy:Bytes w B' A ys)(hs:xs.length+m≤70368744177664)(hB:B≤w.heap.size):
  ∃v' w',(Builtin.append_ #[100,100] 100 #[v, .slice A m c]).run Tryz.prog w= .ok v' w'∧OwnB w' B v' (xs++ys)∧Below B w w':=by
 obtain⟨v',w',h1,h2,h3⟩:=append_bytes B v xs.length (xs.map u8v) w h A m c B' ys hl hy hs hB
 refine⟨v',w',h1,?_,below_of_grown h3 (fun g hg=>(h.lt g hg).1) hB⟩
 unfold OwnB
 rw[List.length_append,hl,List.map_append]
 exact h2
theorem own_form{base n:Nat}{v:Value}{l:List Value}{w:World}(h:w.ownsRow base 5 1 v n l): ∃A c,v= .slice A n c:=by
 rcases h.2 with ⟨rfl,rfl⟩|⟨g,cap,cur,rfl,_⟩
 · exact⟨none,0,rfl⟩
 · exact⟨_,cap,rfl⟩
theorem own_bytes{base n c:Nat}{A:Option Addr}{xs:List Int}{w:World}(h:w.ownsRow base 5 1 (.slice A n c) n (xs.map u8v)):Bytes w w.heap.size A xs:=by
 intro hp
 have hl:=h.1
 rcases h.2 with ⟨e,rfl⟩|⟨g,cap,cur,e,_,hg,_⟩
 · simp at hl
   rw[hl]at hp
   simp at hp
 · injection e with e1 e2 e3
   subst e1
   refine⟨_,rfl,?_,fun j v hv=>h.cells (g:=g) rfl j v hv⟩
   exact Row.lt (t:=5) hg
theorem flat_step(xss:List (List Int))(k:Nat)(xs:List Int)(h:xss[k]?=some xs):(xss.take (k+1)).flatten=(xss.take k).flatten++xs:=by
 rw[List.take_add_one,h]
 simp
theorem parts_one{w:World}{B g:Nat}{a:Option Addr}{c:Nat}{xs:List Int}(hg:g<B)(hc:w.cell? ⟨g,0,none⟩=some (.slice a xs.length c))(hx:Bytes w B a xs)(hr: ∀x∈xs,0≤x∧x≤255):Parts w B (some ⟨g,0,none⟩) [xs]:=by
 intro k ys hk
 rcases k with _|k
 · obtain rfl:xs=ys:=by simpa using hk
   exact⟨g,0,a,c,rfl,hg,hc,hx,hr⟩
 · simp at hk
theorem parts_two{w:World}{B g:Nat}{a a':Option Addr}{c c':Nat}{xs ys:List Int}(hg:g<B)(hc:w.cell? ⟨g,0,none⟩=some (.slice a xs.length c))(hx:Bytes w B a xs)(hr: ∀x∈xs,0≤x∧x≤255)
   (hc':w.cell? ⟨g,1,none⟩=some (.slice a' ys.length c')) (hy:Bytes w B a' ys) (hr': ∀x∈ys,0≤x∧x≤255):Parts w B (some ⟨g,0,none⟩) [xs,ys]:=by
 intro k zs hk
 rcases k with _|_|k
 · obtain rfl:xs=zs:=by simpa using hk
   exact⟨g,0,a,c,rfl,hg,hc,hx,hr⟩
 · obtain rfl:ys=zs:=by simpa using hk
   exact⟨g,0,a',c',rfl,hg,hc',hy,hr'⟩
 · simp at hk
theorem Bytes.drop{w:World}{B g:Nat}{xs:List Int}(h:Bytes w B (some ⟨g,0,none⟩) xs)(k:Nat):Bytes w B (some ⟨g,k,none⟩) (xs.drop k):=by
 intro hp
 obtain⟨ad,e,hlt,hc⟩:=h (by simp at hp;omega)
 obtain rfl:=Option.some.inj e
 refine⟨_,rfl,hlt,fun j v hv=>?_⟩
 have:=hc (k+j) v (by rw[←hv,List.map_drop,List.getElem?_drop])
 rw[Addr.add_mid]at this ⊢
 rw[Nat.zero_add]at this
 exact this
theorem plainB:Tryz.prog.plainKey 5=true:=by kernel_rfl
theorem run_items(d:Nat)(xs ys:List Int)(hx:xs.length=32)(hy:ys.length=32)(w:World): ∀is:List Nat,(∀i∈is,i<32)→
  (Op.eqItems (d+1) 5 1 (arrB 32 xs) (arrB 32 ys) is).run Tryz.prog w= .ok (decide (∀i∈is,xs.getD i 0=ys.getD i 0)) w
 |[],_=>by simp[Op.eqItems]
 |i::is,h=>by
  have hi:=h i (by simp)
  have p1:=run_part_plain (P:=Tryz.prog) w plainB (arrB_get 32 xs (i*1) (by omega) (by omega))
  have p2:=run_part_plain (P:=Tryz.prog) w plainB (arrB_get 32 ys (i*1) (by omega) (by omega))
  have p3:=run_equalIn_int (P:=Tryz.prog) w d 5 .u8 .u8 (xs.getD (i*1) 0) (ys.getD (i*1) 0) underlying5
  have ih:=run_items d xs ys hx hy w is (fun j hj=>h j (by simp[hj]))
  rw[Nat.mul_one]at p1 p2 p3
  simp only[Op.eqItems,Sem.run_bind,Nat.mul_one,p1,p2,p3,Result.andThen_ok]
  by_cases e:xs.getD i 0=ys.getD i 0
  · have e':(xs.getD i 0==ys.getD i 0)=true:=by simpa using e
    rw[e']
    simp only[Bool.not_true,Bool.false_eq_true,if_false,ih,List.forall_mem_cons,e,true_and]
  · have e':(xs.getD i 0==ys.getD i 0)=false:=by simpa using e
    rw[e']
    simp only[Bool.not_false,if_true,Sem.run_pure,List.forall_mem_cons,e,false_and,decide_false]
def eqL(xs ys:List Int):Bool:=decide (xs=ys)
theorem list_eq_iff(xs ys:List Int)(hx:xs.length=32)(hy:ys.length=32):(∀i∈List.range 32,xs.getD i 0=ys.getD i 0) ↔xs=ys:=by
 constructor
 · intro h
   apply List.ext_getElem (by omega)
   intro i h1 h2
   have:=h i (by simp;omega)
   simpa [List.getD,List.getElem?_eq_getElem h1,List.getElem?_eq_getElem h2] using this
 · rintro rfl i _
   rfl
theorem run_equal_id(xs ys:List Int)(hx:xs.length=32)(hy:ys.length=32)(w:World):(Op.equal 26 (.agg (arrB 32 xs)) (.agg (arrB 32 ys))).run Tryz.prog w= .ok (eqL xs ys) w:=by
 unfold Op.equal
 cases hq:Tryz.prog.info? 5 with
 |none=>have:=infoB;rw[hq]at this;cases this
 |some i=>
  have h:=run_equalIn_array (P:=Tryz.prog) w 9999 (arrB 32 xs) (arrB 32 ys) underlying26 hq
  rw[cellsB,run_items 9998 xs ys hx hy w (List.range 32) (by simp)]at h
  have e:decide (∀i∈List.range 32,xs.getD i 0=ys.getD i 0)=eqL xs ys:=decide_eq_decide.2 (list_eq_iff xs ys hx hy)
  rw[e]at h
  exact h
def isIds(l:List (List Int)):Prop:= ∀x∈l,x.length=32∧ ∀b∈x,0≤b∧b≤255
def idv(x:List Int):Value:= .agg (arrB 32 x)
theorem isIds.take{l:List (List Int)}(h:isIds l)(k:Nat):isIds (l.take k):=fun x hx=>h x (List.mem_of_mem_take hx)
theorem isIds.drop{l:List (List Int)}(h:isIds l)(k:Nat):isIds (l.drop k):=fun x hx=>h x (List.mem_of_mem_drop hx)
theorem isIds.flat_len{l:List (List Int)}(h:isIds l):l.flatten.length=l.length*32:=by
 induction l with
 |nil=>rfl
 |cons x l ih=>
  rw[List.flatten_cons,List.length_append,(h x (List.mem_cons_self ..)).1,ih (fun y hy=>h y (List.mem_cons_of_mem _ hy)),List.length_cons]
  omega
theorem isIds.flat_get{l:List (List Int)}(h:isIds l): ∀(i j:Nat),i<l.length→j<32→l.flatten[i*32+j]?=(l.getD i [])[j]?:=by
 induction l with
 |nil=>intro i j hi;simp at hi
 | cons x l ih=>
  intro i j hi hj
  have hx:=(h x (List.mem_cons_self ..)).1
  rw[List.flatten_cons]
  cases i with
  |zero=>
   rw[Nat.zero_mul,Nat.zero_add,List.getElem?_append_left (by omega)]
   rfl
  |succ i=>
   rw[List.getElem?_append_right (by omega),hx,show (i+1)*32+j- 32=i*32+j by omega,ih (fun y hy=>h y (List.mem_cons_of_mem _ hy)) i j (by simpa using hi) hj]
   simp
theorem isIds.get{l:List (List Int)}(h:isIds l){i:Nat}(hi:i<l.length):(l.getD i []).length=32∧ ∀b∈l.getD i [],0≤b∧b≤255:=by
 rw[List.getD_eq_getElem?_getD,List.getElem?_eq_getElem hi]
 exact h _ (List.getElem_mem hi)
def IdsIn(w:World)(B:Nat)(A:Option Addr)(l:List (List Int)):Prop:=Bytes w B A l.flatten
theorem IdsIn.nil(w:World)(B:Nat)(A:Option Addr):IdsIn w B A []:=Bytes.nil _ _ _
theorem IdsIn.up{w w':World}{A:Option Addr}{l:List (List Int)}(h:IdsIn w w.heap.size A l)(hb:Below w.heap.size w w'):IdsIn w' w'.heap.size A l:=Bytes.up h hb
theorem IdsIn.below{w w':World}{B:Nat}{A:Option Addr}{l:List (List Int)}(h:IdsIn w B A l)(hb:Below B w w'):IdsIn w' B A l:=Bytes.below h hb
theorem infoI:(Tryz.prog.info? 26).map (fun i=>(i.size,i.bytes))=some (32,32):=by kernel_rfl
theorem run_loadId{w:World}{ad:Addr}{x:List Int}(hx:x.length=32)(h: ∀j,j<32→w.cell? (ad.add j)=some (.int .u8 (x.getD j 0))):(loadVar 26 ad).run Tryz.prog w= .ok (idv x) w:=by
 have hc:=run_loadCells_list (P:=Tryz.prog) w ad (x.map u8v) (fun j v hv=>by
  have hj:j<x.length:=by
   rcases Nat.lt_or_ge j x.length with h'|h'
   · exact h'
   · rw[List.getElem?_eq_none (by simpa using h')]at hv
     cases hv
  rw[h j (by omega)]
  rw[List.getElem?_map,List.getElem?_eq_getElem hj]at hv
  simp only[Option.map_some]at hv
  rw[←hv]
  simp[u8v,List.getD,List.getElem?_eq_getElem hj])
 rw[List.length_map,hx]at hc
 have ha:(x.map u8v).toArray=arrB 32 x:=by unfold arrB;rw[hx];simp
 rw[ha]at hc
 cases hq:Tryz.prog.info? 26 with
 |none=>have:=infoI;rw[hq]at this;cases this
 | some i=>
  have hs:=infoI
  rw[hq]at hs
  simp only[Option.map_some,Option.some.injEq,Prod.mk.injEq]at hs
  have hagg:(isAgg 26).run Tryz.prog w= .ok true w:=by
   simp[isAgg,run_underlying underlying26]
  simp[loadVar,hagg,sizeOf,typeInfo,hq,hs.1,hc,idv]
theorem IdsIn.load{w:World}{B:Nat}{A:Option Addr}{l:List (List Int)}(h:IdsIn w B A l)(hl:isIds l){i:Nat}(hi:i<l.length): ∃ad,A=some ad∧(loadVar 26 (ad.add (i*32))).run Tryz.prog w= .ok (idv (l.getD i [])) w:=by
 have hfl:=hl.flat_len
 obtain⟨ad,e,_,hc⟩:=h (by omega)
 refine⟨ad,e,run_loadId (hl.get hi).1 (fun j hj=>?_)⟩
 have h1:(ad.add (i*32)).add j=ad.add (i*32+j):=by
  unfold Addr.add
  by_cases h0:i*32=0
  · simp[h0]
  · by_cases h2:j=0
    · simp[h0,h2]
    · simp[h0,h2,Nat.add_assoc]
 rw[h1]
 refine hc (i*32+j) _ ?_
 rw[List.getElem?_map,hl.flat_get i j hi hj,List.getElem?_eq_getElem (by rw[(hl.get hi).1];exact hj)]
 simp only[Option.map_some,u8v,Option.some.injEq,Value.int.injEq,true_and]
 rw[List.getD_eq_getElem?_getD (l:=l.getD i []),List.getElem?_eq_getElem (by rw[(hl.get hi).1];exact hj)]
 rfl
open Go.ChangeShapes Go.WideShapes Go.ChangeAt Go.RowKit Go.Deep
theorem cellsOfId:Tryz.prog.cellsOf 26=32:=by kernel_rfl
theorem id_cells{H:Type}{enc:TypeId × Value→H}{W:World}{base:Nat}{spare:Nat→Bool}{held:Bool}{fuel:Nat}{cs:List Value}{x:DataW H × List MemPlace}(h:DataW.trod enc Tryz.prog W base spare held fuel 26 cs=some x):
   ∃xs:List Int,xs.length=32∧(∀b∈xs,0≤b∧b≤255)∧cs=xs.map u8v:=by
 obtain⟨ys,m,_,_,hlen,hl,hall⟩:=DataW.trod_array underlying26 h
 rw[cellsOfId]at hlen
 have hc: ∀i,i<32→ ∃n:Int,cs[i]?=some (.int .u8 n)∧0≤n∧n≤255:=by
   intro i hi
   have h1:=hall i hi
   rw[List.getElem?_eq_getElem (by omega:i<ys.length)]at h1
   obtain⟨n,e,_,wf⟩:=DataW.trod_int underlying5 h1
   refine⟨n,?_,?_⟩
   · rw[cellsB,Nat.mul_one]at e
     have hi':i<cs.length:=by omega
     simp only[List.drop_eq_getElem_cons hi',List.take_succ_cons,List.take_zero,List.cons.injEq,and_true]at e
     rw[List.getElem?_eq_getElem hi',e]
   · have:=bounds_u8 wf
     omega
 refine⟨cs.map intOf,by simp[hlen],?_,?_⟩
 · intro b hb
   obtain⟨u,hu,rfl⟩:=List.mem_map.1 hb
   obtain⟨i,hi,rfl⟩:=List.getElem_of_mem hu
   obtain⟨n,e,hn⟩:=hc i (by omega)
   rw[List.getElem?_eq_getElem hi]at e
   rw[Option.some.inj e]
   exact hn
 · apply List.ext_getElem?
   intro i
   by_cases hi:i<32
   · obtain⟨n,e,_⟩:=hc i hi
     rw[e,List.getElem?_map,List.getElem?_map,e]
     rfl
   · rw[List.getElem?_eq_none (by omega),List.getElem?_eq_none (by simp;omega)]
open Go
def rotI(x n:Int):Int:=bits BinOp.or IntKind.u32 (x/2^n.toNat) (x*2^ (32- n).toNat % 4294967296)
def sig1(e:Int):Int:=bits BinOp.xor IntKind.u32 (bits BinOp.xor IntKind.u32 (rotI e 6) (rotI e 11)) (rotI e 25)
def sig0(a:Int):Int:=bits BinOp.xor IntKind.u32 (bits BinOp.xor IntKind.u32 (rotI a 2) (rotI a 13)) (rotI a 22)
def chI(e f g:Int):Int:=bits BinOp.xor IntKind.u32 (bits BinOp.and IntKind.u32 e f) (bits BinOp.and IntKind.u32 (bits BinOp.xor IntKind.u32 IntKind.u32.max e) g)
def majI(a b c:Int):Int:=bits BinOp.xor IntKind.u32 (bits BinOp.xor IntKind.u32 (bits BinOp.and IntKind.u32 a b) (bits BinOp.and IntKind.u32 a c)) (bits BinOp.and IntKind.u32 b c)
structure S8 where
  a:Int
  b:Int
  c:Int
  d:Int
  e:Int
  f:Int
  g:Int
  h:Int
def S8.step (s:S8) (k x:Int):S8:=
  { a:=(s.h+sig1 s.e+chI s.e s.f s.g+k+x+(sig0 s.a+majI s.a s.b s.c)) % 4294967296
    b:=s.a,c:=s.b,d:=s.c
    e:=(s.d+(s.h+sig1 s.e+chI s.e s.f s.g+k+x)) % 4294967296
    f:=s.e,g:=s.f,h:=s.g}
def S8.cells(s:S8):Array Value:= #[.int .u32 s.a, .int .u32 s.b, .int .u32 s.c, .int .u32 s.d, .int .u32 s.e, .int .u32 s.f, .int .u32 s.g, .int .u32 s.h]
def S8.add (s t:S8):S8:=
  { a:=(s.a+t.a) % 4294967296,b:=(s.b+t.b) % 4294967296,c:=(s.c+t.c) % 4294967296,d:=(s.d+t.d) % 4294967296
    e:=(s.e+t.e) % 4294967296,f:=(s.f+t.f) % 4294967296,g:=(s.g+t.g) % 4294967296,h:=(s.h+t.h) % 4294967296}
def wordI(x0 x1 x2 x3:Int):Int:=bits BinOp.or IntKind.u32 (bits BinOp.or IntKind.u32 (bits BinOp.or IntKind.u32 (x0*16777216) (x1*65536)) (x2*256)) x3
def lenL(n:Int):List Int:=[8*n/256/256/256/256/256/256/256,8*n/256/256/256/256/256/256,8*n/256/256/256/256/256 % 256,8*n/256/256/256/256 % 256,8*n/256/256/256 % 256,8*n/256/256 % 256,8*n/256 % 256,8*n % 256]
def wordAt(xs:List Int)(k:Nat):Int:=wordI (xs.getD (4*k) 0) (xs.getD (4*k+1) 0) (xs.getD (4*k+2) 0) (xs.getD (4*k+3) 0)
def smallS(x:Int):Int:=bits BinOp.xor IntKind.u32 (bits BinOp.xor IntKind.u32 (rotI x 7) (rotI x 18)) (x/8)
def smallT(x:Int):Int:=bits BinOp.xor IntKind.u32 (bits BinOp.xor IntKind.u32 (rotI x 17) (rotI x 19)) (x/1024)
def nextW(l:List Int)(j:Nat):Int:=(l.getD j 0+l.getD (j+9) 0+smallS (l.getD (j+1) 0)+smallT (l.getD (j+14) 0)) % 4294967296
def firstL(xs:List Int):Nat→List Int
  |0=>[]
  |k+1=>firstL xs k++[wordAt xs k]
def moreL(xs:List Int):Nat→List Int
  |0=>firstL xs 16
  |j+1=>moreL xs j++[nextW (moreL xs j) j]
theorem firstL_len(xs:List Int)(k:Nat):(firstL xs k).length=k:=by
 induction k with
 |zero=>rfl
 |succ k ih=>simp[firstL,ih]
theorem moreL_len(xs:List Int)(k:Nat):(moreL xs k).length=16+k:=by
 induction k with
 |zero=>simp[moreL,firstL_len]
 |succ k ih=>simp[moreL,ih];omega
def roundNs:List Int:=[1116352408,1899447441,3049323471,3921009573,961987163,1508970993,2453635748,2870763221,3624381080,310598401,607225278,1426881987,1925078388,2162078206,2614888103,3248222580,3835390401,4022224774,264347078,604807628,770255983,1249150122,1555081692,1996064986,2554220882,2821834349,2952996808,3210313671,3336571891,3584528711,113926993,338241895,666307205,773529912,1294757372,1396182291,1695183700,1986661051,2177026350,2456956037,2730485921,2820302411,3259730800,3345764771,3516065817,3600352804,4094571909,275423344,430227734,506948616,659060556,883997877,958139571,1322822218,1537002063,1747873779,1955562222,2024104815,2227730452,2361852424,2428436474,2756734187,3204031479,3329325298]
def runL(s:S8)(ws:List Int):Nat→S8
  |0=>s
  |k+1=>(runL s ws k).step (roundNs.getD k 0) (ws.getD k 0)
def mixS(s:S8)(xs:List Int):S8:=s.add (runL s (moreL xs 48) 64)
def u32v(n:Int):Value:= .int .u32 n
def arr64(l:List Int):Array Value:=((l++List.replicate (64- l.length) 0).map u32v).toArray
theorem arr64_size(l:List Int)(h:l.length≤64):(arr64 l).size=64:=by simp[arr64];omega
theorem arr64_one(l:List Int):(arr64 l).all (·.oneCell')=true:=by
 simp only[arr64,List.all_toArray,List.all_map,List.all_eq_true,Function.comp]
 exact fun _ _=>rfl
theorem arr64_get(l:List Int)(i:Nat)(h:l.length≤64)(hi:i<64):(arr64 l)[i]?=some (.int .u32 (l.getD i 0)):=by
 unfold arr64
 simp only[List.getElem?_toArray,List.getElem?_map]
 by_cases hl:i<l.length
 · rw[List.getElem?_append_left hl,List.getElem?_eq_getElem hl]
   simp[u32v,List.getD,List.getElem?_eq_getElem hl]
 · rw[List.getElem?_append_right (by omega),List.getElem?_replicate,if_pos (by omega)]
   simp[u32v,List.getD,List.getElem?_eq_none (by omega:l.length≤i)]
theorem arr64_put(l:List Int)(v:Int)(h:l.length<64):(arr64 l).setIfInBounds l.length (.int .u32 v)=arr64 (l++[v]):=by
 apply Array.ext_getElem?
 intro i
 rw[Array.getElem?_setIfInBounds]
 by_cases hi:i<64
 · rw[arr64_get (l++[v]) i (by simp;omega) hi,arr64_size l (by omega)]
   by_cases e:l.length=i
   · subst e;simp[h]
   · rw[if_neg e,arr64_get l i (by omega) hi]
     congr 2
     by_cases hl:i<l.length
     · simp[List.getD,List.getElem?_append_left hl]
     · simp[List.getD,List.getElem?_eq_none (by omega:l.length≤i),List.getElem?_eq_none (by simp;omega:(l++[v]).length≤i)]
 · have h2:(l++[v]).length≤64:=by simp;omega
   rw[if_neg (by omega),Array.getElem?_eq_none (by rw[arr64_size l (by omega)];omega),Array.getElem?_eq_none (by rw[arr64_size _ h2];omega)]
def bytes4(x:Int):List Int:=[x/16777216 % 256,x/65536 % 256,x/256 % 256,x % 256]
def zero8:S8:=⟨0,0,0,0,0,0,0,0⟩
def S8.get(s:S8)(k:Nat):Int:=[s.a,s.b,s.c,s.d,s.e,s.f,s.g,s.h].getD k 0
theorem S8.cells_get(s:S8)(k:Nat)(h:k<8):s.cells[k]?=some (.int .u32 (s.get k)):=by
 rcases k with _|_|_|_|_|_|_|_|k
 all_goals first|rfl|omega
theorem S8.cells_size(s:S8):s.cells.size=8:=rfl
theorem S8.cells_one(s:S8):s.cells.all (·.oneCell')=true:=by simp[S8.cells,Value.oneCell']
def S8.addTo (s t:S8) (k:Nat):S8:=
  { a:=if 0<k then (s.a+t.a) % 4294967296 else s.a
    b:=if 1<k then (s.b+t.b) % 4294967296 else s.b
    c:=if 2<k then (s.c+t.c) % 4294967296 else s.c
    d:=if 3<k then (s.d+t.d) % 4294967296 else s.d
    e:=if 4<k then (s.e+t.e) % 4294967296 else s.e
    f:=if 5<k then (s.f+t.f) % 4294967296 else s.f
    g:=if 6<k then (s.g+t.g) % 4294967296 else s.g
    h:=if 7<k then (s.h+t.h) % 4294967296 else s.h}
theorem S8.addTo_get(s t:S8)(k:Nat)(h:k<8):(s.addTo t k).get k=s.get k:=by
 rcases k with _|_|_|_|_|_|_|_|k
 all_goals first|rfl|omega
theorem S8.addTo_put(s t:S8)(k:Nat)(h:k<8):(s.addTo t k).cells.setIfInBounds k (.int .u32 ((s.get k+t.get k) % 4294967296))=(s.addTo t (k+1)).cells:=by
 rcases k with _|_|_|_|_|_|_|_|k
 all_goals first|rfl|omega
def idPre(s:S8):Nat→List Int
  |0=>[]
  |k+1=>idPre s k++bytes4 (s.get k)
theorem idPre_len(s:S8)(k:Nat):(idPre s k).length=4*k:=by
 induction k with
 |zero=>rfl
 |succ k ih=>simp[idPre,ih,bytes4];omega
theorem idPre_put(s:S8)(k:Nat)(h:k<8):((((arrB 32 (idPre s k)).setIfInBounds (4*k) (.int .u8 (s.get k/16777216 % 256))).setIfInBounds (4*k+1) (.int .u8 (s.get k/65536 % 256))).setIfInBounds (4*k+2) (.int .u8 (s.get k/256 % 256))).setIfInBounds (4*k+3) (.int .u8 (s.get k % 256))=arrB 32 (idPre s (k+1)):=by
 have hl:=idPre_len s k
 rw[arrB_put_at 32 _ _ (4*k) hl (by omega),arrB_put_at 32 _ _ (4*k+1) (by simp[hl]) (by omega),arrB_put_at 32 _ _ (4*k+2) (by simp[hl]) (by omega),arrB_put_at 32 _ _ (4*k+3) (by simp[hl]) (by omega)]
 simp[idPre,bytes4]
def firstW:S8:=⟨1779033703,3144134277,1013904242,2773480762,1359893119,2600822924,528734635,1541459225⟩
def sumK(p:List Int):Nat→S8
  |0=>firstW
  |k+1=>mixS (sumK p k) (p.drop (64*k))
theorem S8.addTo_all(s t:S8):s.addTo t 8=s.add t:=rfl
theorem turn_any(x n:Int)(w:World)(h0:0≤n)(h1:n≤31):
  Calls Tryz.prog 222 #[.int .u32 x, .int .u64 n] w fun e w'=>e= .returned (.int .u32 (rotI x n))∧w=w':=by
 go_enter func222,ntmps222
 go_wp2
 go_ret
 exact⟨rfl,rfl⟩
theorem round_any(s:S8)(k x:Int)(w:World):
  Calls Tryz.prog 204 #[.agg s.cells, .int .u32 k, .int .u32 x] w fun r w'=>r= .returned (.agg (s.step k x).cells)∧Below w.heap.size w w':=by
 obtain⟨a,b,c,d,e,f,g,h⟩:=s
 unfold S8.cells
 go_enter func204,ntmps204
 go_wp2_with fail
 go_quiet (fail)
 go_wp2_with (go_at_call 222;refine(turn_any _ _ _ (by omega) (by omega)).mono ?_;rintro e w' ⟨rfl,rfl⟩)
 go_returns
 refine⟨rfl,?_⟩
 repeat' (first|(with_reducible exact Below.refl _ _)|(with_reducible refine below_drewN ?_ _)|(with_reducible refine Below.alloc ?_ ?_ _)|(with_reducible refine Below.setCell ?_ ?_ _)|go_size)
theorem word_any(b:Nat)(o:Nat)(c:Nat)(x0 x1 x2 x3:Int)(w:World)
  (g0:w.cell? ⟨b,o,none⟩=some (.int .u8 x0)) (g1:w.cell? ⟨b,o+1,none⟩=some (.int .u8 x1)) (g2:w.cell? ⟨b,o+2,none⟩=some (.int .u8 x2)) (g3:w.cell? ⟨b,o+3,none⟩=some (.int .u8 x3))
  (b00:0≤x0) (b01:x0≤255) (b10:0≤x1) (b11:x1≤255) (b20:0≤x2) (b21:x2≤255) (b30:0≤x3) (b31:x3≤255):
  Calls Tryz.prog 221 #[.slice (some ⟨b,o,none⟩) 4 c] w fun e w'=>e= .returned (.int .u32 (wordI x0 x1 x2 x3))∧ ∃n,w'=w.drewN n:=by
 go_enter func221,ntmps221
 go_wp2_with fail
 go_quiet (fail)
 go_wp2
 go_returns
 exact⟨rfl,nq,rfl⟩
theorem len_any(n:Int)(w:World)(h0:0≤n)(h1:n≤140737488355328):
  Calls Tryz.prog 202 #[.int .i64 n] w fun e w'=>e= .returned (.agg ((lenL n).map u8v).toArray)∧Below w.heap.size w w':=by
 go_enter func202,ntmps202
 go_wp2
 go_rounds 9
 go_returns
 exact⟨rfl,by go_grown⟩
theorem info48:(Tryz.prog.info? 214).map (·.size)=some 64:=by kernel_rfl
theorem sched_any (b o n c:Nat) (xs:List Int) (w:World) (hn:64≤n) (hnc:n≤c) (hm:c≤140737488355328) (hb:b<w.heap.size)
  (hx: ∀i,i<64→w.cell? ⟨b,o+i,none⟩=some (.int .u8 (xs.getD i 0))) (hr: ∀i,0≤xs.getD i 0∧xs.getD i 0≤255):
  Calls Tryz.prog 203 #[.slice (some ⟨b,o,none⟩) n c] w fun e w'=>e= .returned (.agg (arr64 (moreL xs 48)))∧Below w.heap.size w w':=by
 have HX:=Lib.hid hx
 clear hx
 have HR:=Lib.hid hr
 clear hr
 go_enter func203,ntmps203
 go_wp2
 go_loopw [10] (fun i u=> ∃k:Nat,k≤16∧i= .int .i64 k∧Below w.heap.size w u∧u.heap.size=w.heap.size+2∧Row u w.heap.size 214 (arr64 [])∧Row u (w.heap.size+1) 214 (arr64 (firstL xs k))) (fun i _=>16- (intOf i).toNat)
 case atStart=>exact⟨0,by omega,rfl,by go_grown,by simp,(Row.new w 214 _).alloc _,Row.newAt (by simp) 214 _⟩
 case round=>
  obtain⟨k,hk,rfl,hbl,hsz,hr0,hr1⟩:=hrel
  have HZ:=Lib.hid hsz
  clear hsz
  by_cases hlt:k<16
  · have g0:=(hbl.cell (p:=⟨b,o+4*k,none⟩) hb).trans (HX.out (4*k) (by omega))
    have g1:=(hbl.cell (p:=⟨b,o+4*k+1,none⟩) hb).trans (HX.out (4*k+1) (by omega))
    have g2:=(hbl.cell (p:=⟨b,o+4*k+2,none⟩) hb).trans (HX.out (4*k+2) (by omega))
    have g3:=(hbl.cell (p:=⟨b,o+4*k+3,none⟩) hb).trans (HX.out (4*k+3) (by omega))
    have G0:=Lib.hid g0
    have G1:=Lib.hid g1
    have G2:=Lib.hid g2
    have G3:=Lib.hid g3
    clear g0 g1 g2 g3
    have c1:=(hr1.cell k).trans (arr64_get _ k (by rw[firstL_len];omega) (by omega))
    have f1:=hr1.frozen k
    have HR0:=Lib.hid hr0
    have HR1:=Lib.hid hr1
    clear hr0 hr1
    go_wp2_with fail
    refine(word_any b (o+4*k) _ _ _ _ _ _ G0.out G1.out G2.out G3.out (HR.out _).1 (HR.out _).2 (HR.out _).1 (HR.out _).2 (HR.out _).1 (HR.out _).2 (HR.out _).1 (HR.out _).2).mono ?_
    rintro e w' ⟨rfl,nq,rfl⟩
    go_wp2
    go_roundw
    case rel=>exact⟨k+1,by omega,by go_num,(below_drewN hbl _).setCell (by simp) _,by simpa using HZ.out,(HR0.out.drewN _).far (by simp) _,by
       have h:=(HR1.out.drewN nq).put k (.int .u32 (wordAt xs k))
       have e:=arr64_put (firstL xs k) (wordAt xs k) (by rw[firstL_len];omega)
       rw[firstL_len]at e
       rw[e]at h
       exact h⟩
    case measure=>simp[intOf];omega
  · obtain rfl:k=16:=by omega
    have HR0:=Lib.hid hr0
    have HR1:=Lib.hid hr1
    clear hr0 hr1
    go_wp2
    go_loopw [5] (fun i u=> ∃j:Nat,j≤48∧i= .int .i64 (j+16)∧Below w.heap.size w u∧u.heap.size=w.heap.size+2∧Row u w.heap.size 214 (arr64 [])∧Row u (w.heap.size+1) 214 (arr64 (moreL xs j))) (fun i _=>64- (intOf i).toNat)
    case atStart=>exact⟨0,by omega,rfl,hbl,HZ.out,HR0.out,HR1.out⟩
    case round=>
     clear hbl HZ HR0 HR1
     obtain⟨j,hj,rfl,hbl,hsz,hr0,hr1⟩:=hrel
     have HZ:=Lib.hid hsz
     clear hsz
     have hl:=moreL_len xs j
     by_cases hlt:j<48
     · have c0:=(hr1.cell j).trans (arr64_get _ j (by omega) (by omega))
       have c1:=(hr1.cell (j+1)).trans (arr64_get _ (j+1) (by omega) (by omega))
       have c9:=(hr1.cell (j+9)).trans (arr64_get _ (j+9) (by omega) (by omega))
       have c14:=(hr1.cell (j+14)).trans (arr64_get _ (j+14) (by omega) (by omega))
       have c16:=(hr1.cell (j+16)).trans (arr64_get _ (j+16) (by omega) (by omega))
       have f16:=hr1.frozen (j+16)
       have HL:=Lib.hid hl
       have HR0:=Lib.hid hr0
       have HR1:=Lib.hid hr1
       clear hr0 hr1 hl
       go_wp2_with fail
       go_quiet (fail)
       go_wp2_with (go_at_call 222;refine(turn_any _ _ _ (by omega) (by omega)).mono ?_;rintro e w' ⟨rfl,rfl⟩)
       have s16:IntKind.i64.wrap ((j:Int)+16- 16)=(j:Int):=by rw[IntWalk.i64_in _ (by omega)];omega
       have s16':IntKind.i64.wrap (j:Int)=(j:Int):=by rw[IntWalk.i64_in _ (by omega)]
       have s7:IntKind.i64.wrap ((j:Int)+16- 7)=((j+9:Nat):Int):=by rw[IntWalk.i64_in _ (by omega)];omega
       have q0:j<64:=by omega
       have q9:j+9<64:=by omega
       have q0':(j:Int)<64:=by omega
       have q9':(j:Int)+9<64:=by omega
       have q9'':((j:Int)+9).toNat=j+9:=by omega
       have q99:0≤(j:Int)+9:=by omega
       have d0:(wr.drewN nq).cell? _=_:=c0
       have d9:(wr.drewN nq).cell? _=_:=c9
       have d16:(wr.drewN nq).cell? _=_:=c16
       have e16:(wr.drewN nq).frozen? _=_:=f16
       have HR1':Hid (Row (wr.drewN nq) (w.heap.size+1) 214 (arr64 (moreL xs j))):=HR1
       have HR0':Hid (Row (wr.drewN nq) w.heap.size 214 (arr64 [])):=HR0
       have hbl':=below_drewN hbl nq
       have HZ':Hid ((wr.drewN nq).heap.size=w.heap.size+2):=HZ
       clear c0 c1 c9 c14 c16 f16 HR1 HR0 hbl HZ
       generalize wr.drewN nq=w2 at *
       go_still_tail 14,(by kernel_rfl)
       clear s16 s16' s7 q9''
       change wpList _ _ _ _ _ w2.drew
       go_wp2
       go_roundw
       case rel=>
        repeat apply Exists.intro
        refine⟨⟨j+1,by omega,by go_num,hbl'.drew.setCell (by simp) _,by simpa using HZ'.out,HR0'.out.drew.far (by simp) _,by
         have h:=HR1'.out.drew.put (j+16) (.int .u32 (nextW (moreL xs j) j))
         have e:=arr64_put (moreL xs j) (nextW (moreL xs j) j) (by rw[HL.out];omega)
         rw[HL.out,Nat.add_comm]at e
         rw[e]at h
         exact h⟩,rfl⟩
       case measure=>simp[intOf];omega
     · obtain rfl:j=48:=by omega
       have hcs:Hid ((Tryz.prog.info? 214).map (·.size)=some (arr64 (moreL xs 48)).size∧(arr64 []).size=(arr64 (moreL xs 48)).size∧(arr64 (moreL xs 48)).all (·.oneCell')=true):=
        Lib.hid ⟨by rw[arr64_size _ (by omega)];exact info48,by rw[arr64_size (moreL xs 48) (by omega),arr64_size [] (by simp)],arr64_one _⟩
       generalize hcsE:arr64 (moreL xs 48)=cs at *
       have HE:=Lib.hid hcsE
       clear hcsE
       generalize arr64 []=zs at *
       have R1:Hid (wr.heap[w.heap.size+1]?=some (.cells cs 214 (0,0))):=hr1
       have R0:Hid (wr.heap[w.heap.size]?=some (.cells zs 214 (0,0))):=hr0
       clear hr0 hr1 hl
       go_upto_region 14 with fail
       refine wp_region_lit ?_
       refine wpList_load_row (o:=⟨some 67,_,_,_,_,_⟩) rfl 214 (.tmp 3) rfl (w.heap.size+1) rfl 214 cs (0,0) _ R1.out underlying214 rfl hcs.out.1 ?_
       refine wpList_store_row rfl 214 (.tmp 2) (.tmp 67) rfl w.heap.size cs rfl rfl 214 zs R0.out hcs.out.1 hcs.out.2.1 hcs.out.2.2 ?_
       go_wp2_with ((with_reducible refine bodyPost_ret (v:= .agg cs) ?_ ?_ ?_);(exact results_cell_row (p:=2) (ty:=214) results203 _ _ w.heap.size 214 cs (0,0) _ rfl (setRow_heap _ _ zs cs 214 (0,0) R0.out) underlying214 rfl hcs.out.1);(rfl))
       exact⟨by rw[HE.out],below_setRow hbl (Nat.le_refl _) _⟩
theorem info40(s:S8):(Tryz.prog.info? 180).map (·.size)=some s.cells.size:=by rw[s.cells_size];kernel_rfl
theorem mix_any (s:S8) (b o n c:Nat) (xs:List Int) (w:World) (hn:64≤n) (hnc:n≤c) (hm:c≤140737488355328) (hb:b<w.heap.size)
   (hx: ∀i,i<64→w.cell? ⟨b,o+i,none⟩=some (.int .u8 (xs.getD i 0))) (hr: ∀i,0≤xs.getD i 0∧xs.getD i 0≤255)
   (h1:1<w.heap.size) (hk: ∀i,i<64→w.cell? ⟨1,i,none⟩=some (.int .u32 (roundNs.getD i 0))):
   Calls Tryz.prog 168 #[.agg s.cells, .slice (some ⟨b,o,none⟩) n c] w fun e w'=>e= .returned (.agg (mixS s xs).cells)∧Below w.heap.size w w':=by
 have HX:=Lib.hid hx
 clear hx
 have HR:=Lib.hid hr
 clear hr
 have HK:=Lib.hid hk
 clear hk
 go_enter func168,ntmps168
 go_wp2_with fail
 refine(sched_any b o n c xs _ hn hnc hm ?_ ?_ HR.out).mono ?_
 · simp;omega
 · intro i hi
   rw[World.cell?_alloc_lt _ _ _ (by simp;omega),World.cell?_alloc_lt _ _ _ hb]
   exact HX.out i hi
 rintro e w1 ⟨rfl,hb1⟩
 have bw:Below w.heap.size w w1:=(((Below.refl _ _).alloc (Nat.le_refl _) _).alloc (by simp) _).trans (hb1.mono (by simp;omega))
 have sz:w.heap.size+2≤w1.heap.size:=by have:=hb1.size;simp at this;omega
 have r0:Hid (Row w1 w.heap.size 180 s.cells):=((Row.new w 180 _).alloc _).below hb1 (by simp;omega)
 have r1:Hid (Row w1 (w.heap.size+1) 180 zero8.cells):=(Row.newAt (by simp) 180 _).below hb1 (by simp)
 clear hb1
 have hcs:Hid ((Tryz.prog.info? 214).map (·.size)=some (arr64 (moreL xs 48)).size∧64=(arr64 (moreL xs 48)).size∧(arr64 (moreL xs 48)).all (·.oneCell')=true∧ ∀i,i<64→(arr64 (moreL xs 48))[i]?=some (.int .u32 ((moreL xs 48).getD i 0))):=
   Lib.hid ⟨by rw[arr64_size _ (by rw[moreL_len];omega)];exact info48,by rw[arr64_size (moreL xs 48) (by rw[moreL_len];omega)],arr64_one _,fun i hi=>arr64_get _ i (by rw[moreL_len];omega) hi⟩
 generalize hcsE:arr64 (moreL xs 48)=cs at *
 clear hcsE
 have hrun:Hid (mixS s xs=s.add (runL s (moreL xs 48) 64)):=rfl
 generalize moreL xs 48=ws at *
 have a0:Hid ((w1.alloc (.cells cs 214)).heap[w.heap.size]?=some (.cells s.cells 180 (0,0))):=r0.out.alloc _
 have a1:Hid (((w1.alloc (.cells cs 214)).alloc (.cells zero8.cells 180)).heap[w1.heap.size+1]?=some (.cells zero8.cells 180 (0,0))):=Row.newAt (by simp) 180 _
 go_wp2_with (first
   |((with_reducible refine wpList_store_row (o:=⟨none, .store 214 _ _,_,_,_,_⟩) ?_ 214 (.tmp 5) (.tmp 10) ?_ w1.heap.size cs ?_ ?_ 214 _ (heap_alloc_last w1 _) hcs.out.1 ?_ hcs.out.2.2.1 ?_);(rfl);(rfl);(rfl);(rfl);(exact hcs.out.2.1);rw[World.setRow_alloc_new])
   |((with_reducible refine wpList_load_row (o:=⟨some 11,_,_,_,_,_⟩) ?_ 180 (.tmp 2) ?_ w.heap.size ?_ 180 s.cells (0,0) _ a0.out underlying180 ?_ (info40 s) ?_);(rfl);(rfl);(rfl);(rfl))
   |((with_reducible refine wpList_store_row (o:=⟨none, .store 180 _ _,_,_,_,_⟩) ?_ 180 (.tmp 6) (.tmp 11) ?_ (w1.heap.size+1) s.cells ?_ ?_ 180 zero8.cells ?_ (info40 s) ?_ s.cells_one ?_);(rfl);(rfl);(rfl);(rfl);(exact a1.out);(rfl)))
 have z8:Hid (Row ((w1.alloc (.cells cs 214)).alloc (.cells zero8.cells 180)) (w1.heap.size+1) 180 zero8.cells):=a1
 have zc:Hid (Row (w1.alloc (.cells cs 214)) w1.heap.size 214 cs):=Row.new w1 214 cs
 go_loopw [12] (fun i u=> ∃k:Nat,k≤64∧i= .int .i64 k∧Below w.heap.size w u∧Hid (Row u w.heap.size 180 s.cells∧Row u (w.heap.size+1) 180 zero8.cells∧Row u w1.heap.size 214 cs∧Row u (w1.heap.size+1) 180 (runL s ws k).cells)) (fun i _=>64- (intOf i).toNat)
 case atStart=>
   refine⟨0,by omega,rfl,below_setRow ((bw.alloc (by omega) _).alloc (by simp;omega) _) (by omega) _,?_,?_,?_,?_⟩
   · exact((r0.out.alloc _).alloc _).setRowFar (by omega)
   · exact((r1.out.alloc _).alloc _).setRowFar (by omega)
   · exact(zc.out.alloc _).setRowFar (by omega)
   · exact z8.out.setRow
 case round=>
   clear a0 a1 z8 zc r0 r1
   obtain⟨k,hk,rfl,hbl,hrows⟩:=hrel
   obtain⟨r0,r1,r2,r3⟩:=hrows.out
   by_cases hlt:k<64
   · have kk:wr.cell? ⟨1,k,none⟩=some (.int .u32 (roundNs.getD k 0)):=(hbl.cell (p:=⟨1,k,none⟩) h1).trans (HK.out k hlt)
     have wk:wr.cell? ⟨w1.heap.size,k,none⟩=some (.int .u32 (ws.getD k 0)):=(r2.cell k).trans (hcs.out.2.2.2 k hlt)
     have hst:Hid (runL s ws (k+1)=(runL s ws k).step (roundNs.getD k 0) (ws.getD k 0)):=rfl
     generalize roundNs.getD k 0=kv at *
     generalize ws.getD k 0=wv at *
     generalize runL s ws k=st at *
     have e0:wr.cell? ⟨w1.heap.size+1,0,none⟩=some (.int .u32 st.a):=r3.cell 0
     have e1:wr.cell? ⟨w1.heap.size+1,1,none⟩=some (.int .u32 st.b):=r3.cell 1
     have e2:wr.cell? ⟨w1.heap.size+1,2,none⟩=some (.int .u32 st.c):=r3.cell 2
     have e3:wr.cell? ⟨w1.heap.size+1,3,none⟩=some (.int .u32 st.d):=r3.cell 3
     have e4:wr.cell? ⟨w1.heap.size+1,4,none⟩=some (.int .u32 st.e):=r3.cell 4
     have e5:wr.cell? ⟨w1.heap.size+1,5,none⟩=some (.int .u32 st.f):=r3.cell 5
     have e6:wr.cell? ⟨w1.heap.size+1,6,none⟩=some (.int .u32 st.g):=r3.cell 6
     have e7:wr.cell? ⟨w1.heap.size+1,7,none⟩=some (.int .u32 st.h):=r3.cell 7
     have R3:Hid (Row wr.drew (w1.heap.size+1) 180 st.cells):=r3
     have R2:Hid (Row wr.drew w1.heap.size 214 cs):=r2
     have R1:Hid (Row wr.drew (w.heap.size+1) 180 zero8.cells):=r1
     have R0:Hid (Row wr.drew w.heap.size 180 s.cells):=r0
     clear r0 r1 r2 r3 hrows
     have hl2:(k:Int)<64:=by omega
     go_wp2_with fail
     go_still_tail 7,(by kernel_rfl)
     change wpList _ _ _ _ _ wr.drew
     go_wp2_with fail
     change Calls Tryz.prog 204 #[Value.agg st.cells,Value.int IntKind.u32 kv,Value.int IntKind.u32 wv] _ _
     refine(round_any st kv wv _).mono ?_
     rintro e w3 ⟨rfl,hb3⟩
     have s3:w1.heap.size+2≤wr.drew.heap.size:=by have:=R3.out.lt;omega
     have Q3:Hid (w3.heap[w1.heap.size+1]?=some (.cells st.cells 180 (0,0))):=R3.out.below hb3 (by omega)
     have Q2:Hid (Row w3 w1.heap.size 214 cs):=R2.out.below hb3 (by omega)
     have Q1:Hid (Row w3 (w.heap.size+1) 180 zero8.cells):=R1.out.below hb3 (by omega)
     have Q0:Hid (Row w3 w.heap.size 180 s.cells):=R0.out.below hb3 (by omega)
     have bl3:Below w.heap.size w w3:=hbl.drew.trans (hb3.mono (by omega))
     clear hb3 e0 e1 e2 e3 e4 e5 e6 e7 kk wk
     generalize st.step kv wv=st2 at *
     go_wp2_with ((with_reducible refine wpList_store_row (o:=⟨none, .store 180 _ _,_,_,_,_⟩) ?_ 180 (.tmp 6) (.tmp 22) ?_ (w1.heap.size+1) st2.cells ?_ ?_ 180 st.cells Q3.out (info40 st2) ?_ st2.cells_one ?_);(rfl);(rfl);(rfl);(rfl);(rfl))
     go_roundw
     case rel=>
      refine⟨k+1,by omega,by go_num,below_setRow bl3 (by omega) _,Q0.out.setRowFar (by omega),Q1.out.setRowFar (by omega),Q2.out.setRowFar (by omega),?_⟩
      rw[hst.out]
      exact Row.setRow Q3.out
     case measure=>simp[intOf];omega
   · obtain rfl:k=64:=by omega
     generalize runL s ws 64=tt at *
     obtain⟨r0,r1,r2,r3⟩:=hrows.out
     have R3:Hid (Row wr (w1.heap.size+1) 180 tt.cells):=r3
     have R1:Hid (Row wr (w.heap.size+1) 180 zero8.cells):=r1
     have R0:Hid (Row wr w.heap.size 180 s.cells):=r0
     clear r0 r1 r2 r3 hrows
     go_wp2_with fail
     go_loopw [24] (fun i u=> ∃k:Nat,k≤8∧i= .int .i64 k∧Below w.heap.size w u∧Hid (Row u w.heap.size 180 (s.addTo tt k).cells∧Row u (w.heap.size+1) 180 zero8.cells∧Row u (w1.heap.size+1) 180 tt.cells)) (fun i _=>8- (intOf i).toNat)
     case atStart=>exact⟨0,by omega,rfl,hbl,R0.out,R1.out,R3.out⟩
     case round=>
      clear R0 R1 R3 hbl
      obtain⟨k,hk,rfl,hbl,hrows⟩:=hrel
      obtain⟨r0,r1,r3⟩:=hrows.out
      by_cases hlt:k<8
      · have e0:wr.cell? ⟨w.heap.size,k,none⟩=some (.int .u32 (s.get k)):=by rw[r0.cell k,S8.cells_get _ k hlt,S8.addTo_get s tt k hlt]
        have e1:wr.cell? ⟨w1.heap.size+1,k,none⟩=some (.int .u32 (tt.get k)):=by rw[r3.cell k,S8.cells_get _ k hlt]
        have f0:=r0.frozen k
        have R0:Hid (Row wr w.heap.size 180 (s.addTo tt k).cells):=r0
        have R1:Hid (Row wr (w.heap.size+1) 180 zero8.cells):=r1
        have R3:Hid (Row wr (w1.heap.size+1) 180 tt.cells):=r3
        have HP:=Lib.hid (S8.addTo_put s tt k hlt)
        clear r0 r1 r3 hrows
        have hl2:(k:Int)<8:=by omega
        go_wp2_with fail
        go_still_tail 7,(by kernel_rfl)
        change wpList _ _ _ _ _ wr.drew
        go_wp2
        go_roundw
        case rel=>
         repeat apply Exists.intro
         refine⟨⟨k+1,by omega,by go_num,hbl.drew.setCell (Nat.le_refl _) _,?_,R1.out.drew.far (by simp) _,R3.out.drew.far (by simp;omega) _⟩,rfl⟩
         rw[←HP.out]
         exact R0.out.drew.put k _
        case measure=>simp[intOf];omega
      · obtain rfl:k=8:=by omega
        rw[S8.addTo_all]at r0
        have hfin:Hid (mixS s xs=s.add tt):=hrun
        generalize s.add tt=ss at *
        have R0:Hid (wr.heap[w.heap.size]?=some (.cells ss.cells 180 (0,0))):=r0
        have R1:Hid (wr.heap[w.heap.size+1]?=some (.cells zero8.cells 180 (0,0))):=r1
        clear r0 r1 r3 hrows
        go_wp2_with (first
         |((with_reducible refine wpList_load_row (o:=⟨some 36,_,_,_,_,_⟩) ?_ 180 (.tmp 2) ?_ w.heap.size ?_ 180 ss.cells (0,0) _ R0.out underlying180 ?_ (info40 ss) ?_);(rfl);(rfl);(rfl);(rfl))
         |((with_reducible refine wpList_store_row (o:=⟨none, .store 180 _ _,_,_,_,_⟩) ?_ 180 (.tmp 4) (.tmp 36) ?_ (w.heap.size+1) ss.cells ?_ ?_ 180 zero8.cells R1.out (info40 ss) ?_ ss.cells_one ?_);(rfl);(rfl);(rfl);(rfl);(rfl))
         |((with_reducible refine bodyPost_ret (v:= .agg ss.cells) ?_ ?_ ?_);(exact results_cell_row (p:=4) (ty:=180) results168 _ _ (w.heap.size+1) 180 ss.cells (0,0) _ rfl (setRow_heap _ _ zero8.cells ss.cells 180 (0,0) R1.out) underlying180 rfl (info40 ss));(rfl)))
        exact⟨by rw[hfin.out],below_setRow hbl (by omega) _⟩
theorem info26(cs:Array Value)(h:cs.size=32):(Tryz.prog.info? 26).map (·.size)=some cs.size:=by rw[h];kernel_rfl
theorem index_cells(s:S8)(k:Nat)(h:k<8)(w:World):(Instr.index 180 (.agg s.cells) (.int .i64 (k:Int))).run Tryz.prog w= .ok (.int .u32 (s.get k)) w:=by
 rcases k with _|_|_|_|_|_|_|_|k
 all_goals first|omega|kernel_rfl
theorem id_any(s:S8)(w:World):
  Calls Tryz.prog 169 #[.agg s.cells] w fun e w'=>e= .returned (.agg (arrB 32 (idPre s 8)))∧Below w.heap.size w w':=by
 have a0:Hid ((w.alloc (.cells s.cells 180)).heap[w.heap.size]?=some (.cells s.cells 180 (0,0))):=heap_alloc_last w _
 have a1:Hid ((((w.alloc (.cells s.cells 180)).alloc (.cells (arrB 32 []) 26)).alloc (.cells (arrB 32 []) 26)).heap[w.heap.size]?=some (.cells s.cells 180 (0,0))):=((Row.new w 180 _).alloc _).alloc _
 go_enter func169,ntmps169
 go_wp2_with ((with_reducible refine wpList_load_row (o:=⟨some 6,_,_,_,_,_⟩) ?_ 180 (.tmp 1) ?_ w.heap.size ?_ 180 s.cells (0,0) _ ?_ underlying180 ?_ (info40 s) ?_);(rfl);(rfl);(rfl);(exact a1.out);(rfl))
 go_loopw [7] (fun i u=> ∃k:Nat,k≤8∧i= .int .i64 k∧Below w.heap.size w u∧Hid (Row u (w.heap.size+1) 26 (arrB 32 [])∧Row u (w.heap.size+1+1) 26 (arrB 32 (idPre s k)))) (fun i _=>8- (intOf i).toNat)
 case atStart=>exact⟨0,by omega,rfl,by go_grown,(Row.newAt (by simp) 26 _).alloc _,Row.newAt (by simp) 26 _⟩
 case round=>
  clear a0 a1
  obtain⟨k,hk,rfl,hbl,hrows⟩:=hrel
  obtain⟨r0,r1⟩:=hrows.out
  by_cases hlt:k<8
  · have hix:=index_cells s k hlt
    have e0:=(r1.cell (4*k)).trans (arrB_get 32 _ (4*k) (by rw[idPre_len];omega) (by omega))
    have e1:=(r1.cell (4*k+1)).trans (arrB_get 32 _ (4*k+1) (by rw[idPre_len];omega) (by omega))
    have e2:=(r1.cell (4*k+2)).trans (arrB_get 32 _ (4*k+2) (by rw[idPre_len];omega) (by omega))
    have e3:=(r1.cell (4*k+3)).trans (arrB_get 32 _ (4*k+3) (by rw[idPre_len];omega) (by omega))
    have f0:=r1.frozen (4*k)
    have f1:=r1.frozen (4*k+1)
    have f2:=r1.frozen (4*k+2)
    have f3:=r1.frozen (4*k+3)
    have R0:=Lib.hid r0
    have R1:=Lib.hid r1
    have HP:=Lib.hid (idPre_put s k hlt)
    clear r0 r1 hrows
    go_wp2
    go_roundw
    case rel=>
     refine⟨k+1,by omega,by go_num,(((hbl.setCell (by simp;omega) _).setCell (by simp;omega) _).setCell (by simp;omega) _).setCell (by simp;omega) _,(((R0.out.far (by simp) _).far (by simp) _).far (by simp) _).far (by simp) _,?_⟩
     rw[←HP.out]
     exact(((R1.out.put _ _).put _ _).put _ _).put _ _
    case measure=>simp[intOf];omega
  · obtain rfl:k=8:=by omega
    have hsz:Hid ((arrB 32 (idPre s 8)).size=32∧(arrB 32 []).size=(arrB 32 (idPre s 8)).size∧(arrB 32 (idPre s 8)).all (·.oneCell')=true):=
     Lib.hid ⟨arrB_size _ _ (by rw[idPre_len];omega),by rw[arrB_size 32 (idPre s 8) (by rw[idPre_len];omega),arrB_size 32 [] (by simp)],arrB_one _ _⟩
    generalize hE:arrB 32 (idPre s 8)=cs at *
    have HE:=Lib.hid hE
    clear hE
    generalize arrB 32 []=zs at *
    have R0:Hid (wr.heap[w.heap.size+1]?=some (.cells zs 26 (0,0))):=r0
    have R1:Hid (wr.heap[w.heap.size+1+1]?=some (.cells cs 26 (0,0))):=r1
    clear r0 r1 hrows
    go_wp2_with (first
     |((with_reducible refine wpList_load_row (o:=⟨some 38,_,_,_,_,_⟩) ?_ 26 (.tmp 3) ?_ (w.heap.size+1+1) ?_ 26 cs (0,0) _ R1.out underlying26 ?_ (info26 cs hsz.out.1) ?_);(rfl);(rfl);(rfl);(rfl))
     |((with_reducible refine wpList_store_row (o:=⟨none, .store 26 _ _,_,_,_,_⟩) ?_ 26 (.tmp 2) (.tmp 38) ?_ (w.heap.size+1) cs ?_ ?_ 26 zs R0.out (info26 cs hsz.out.1) hsz.out.2.1 hsz.out.2.2 ?_);(rfl);(rfl);(rfl);(rfl))
     |((with_reducible refine bodyPost_ret (v:= .agg cs) ?_ ?_ ?_);(exact results_cell_row (p:=2) (ty:=26) results169 _ _ (w.heap.size+1) 26 cs (0,0) _ rfl (setRow_heap _ _ zs cs 26 (0,0) R0.out) underlying26 rfl (info26 cs hsz.out.1));(rfl)))
    exact⟨by rw[HE.out],below_setRow hbl (by omega) _⟩
def padL(xs:List Int)(m:Nat):List Int:=xs++[128]++List.replicate (m- 9- xs.length) 0++lenL xs.length
theorem lenL_len(n:Int):(lenL n).length=8:=rfl
theorem padL_len(xs:List Int)(m:Nat)(h:xs.length+9≤m):(padL xs m).length=m:=by simp[padL,lenL_len];omega
def listB(n:Nat)(l:List Int):List Value:=(l++List.replicate (n- l.length) 0).map u8v
theorem arrB_listB(n:Nat)(l:List Int):arrB n l=(listB n l).toArray:=rfl
theorem listB_len(n:Nat)(l:List Int)(h:l.length≤n):(listB n l).length=n:=by simp[listB];omega
theorem splice_first(m:Nat)(xs:List Int):splice (listB m []) 0 (xs.map u8v)=listB m xs:=by
 simp[splice,listB,List.drop_replicate]
theorem splice_last(m:Nat)(xs:List Int)(h:xs.length+9≤m):splice (listB m (xs++[128])) (m- 8) ((lenL xs.length).map u8v)=listB m (padL xs m):=by
 have e1:m- 8+(lenL xs.length).length=m:=by rw[lenL_len];omega
 have e2:(listB m (xs++[128])).take (m- 8)=(xs++[128]++List.replicate (m- 9- xs.length) 0).map u8v:=by
  unfold listB
  rw[←List.map_take]
  congr 1
  rw[List.take_append]
  congr 1
  · exact List.take_of_length_le (by simp;omega)
  · rw[List.take_replicate]
    congr 1
    simp
    omega
 have e3:(listB m (xs++[128])).drop m=[]:=List.drop_eq_nil_of_le (by rw[listB_len _ _ (by simp;omega)];omega)
 unfold splice
 rw[e2,List.length_map,e1,e3]
 simp[listB,padL,lenL_len]
 omega
theorem info36(cs:Array Value)(h:cs.size=8):(Tryz.prog.info? 212).map (·.size)=some cs.size:=by rw[h];kernel_rfl
theorem info5s:(Tryz.prog.info? 5).map (·.size)=some 1:=by kernel_rfl
theorem pad_any(A:Option Addr)(n c:Nat)(xs:List Int)(w:World)(hl:xs.length=n)(hn:n≤70368744177664)(hx:Bytes w w.heap.size A xs):
   Calls Tryz.prog 167 #[.slice A n c] w fun e w'=>e= .returned (.slice (some ⟨w.heap.size,0,none⟩) ((n+72) /64*64) ((n+72) /64*64))∧Row w' w.heap.size 5 (arrB ((n+72) /64*64) (padL xs ((n+72) /64*64)))∧Below w.heap.size w w':=by
 have HL:=Lib.hid hl
 have HX:=Lib.hid hx
 clear hl hx
 obtain⟨m,hm'⟩: ∃m:Nat,(n+72) /64*64=m:=⟨_,rfl⟩
 rw[hm']
 have hm:((n:Int)+1+8+64- 1) /64*64=m:=by omega
 have HM:=Lib.hid hm
 have m1:n+9≤m:=by omega
 have m2:m<n+73:=by omega
 clear hm hm'
 go_enter func167,ntmps167
 go_wp2_with fail
 rw[HM.out,make_bytes m (by omega)]
 have H0:Hid ((w.alloc (.cells (arrB m []) 5)).heap[w.heap.size]?=some (.cells (listB m []).toArray 5 (0,0))):=Row.new w 5 (arrB m [])
 have HB:Hid (Below w.heap.size w (w.alloc (.cells (arrB m []) 5))):=Lib.hid ((Below.refl _ _).alloc (Nat.le_refl _) _)
 have HC:Hid (0<(xs.map u8v).length→some (⟨w.heap.size,0,none⟩:Addr)=some ⟨w.heap.size,0,none⟩∧ ∃ad,A=some ad∧ ∀j v,(xs.map u8v)[j]?=some v→(w.alloc (.cells (arrB m []) 5)).cell? (ad.add j)=some v):=by
   intro hp
   obtain⟨ad,e,_,hc⟩:=(HX.out.below HB.out) (by simpa using hp)
   exact⟨rfl,ad,e,hc⟩
 go_wp2_with ((with_reducible refine wpList_copy_splice (o:=⟨some 20,_,_,_,_,_⟩) ?_ (.tmp 18) (.tmp 19) 100 100 ?_ 5 underlying100 info5s _ A m m n c ?_ ?_ w.heap.size 0 (listB m []) 5 H0.out (xs.map u8v) ?_ HC.out ?_ ?_ w.heap.size w HB.out ?_ ?_);(rfl);(rfl);(rfl);(rfl);(rw[List.length_map,HL.out];exact(Nat.min_eq_left (by omega)).symm);(rw[List.length_map,HL.out,listB_len m [] (by simp)];omega);(intro v hv;obtain⟨z,_,rfl⟩:=List.mem_map.1 hv;rfl);(exact Nat.le_refl _);intro w1 R1 b1;have r1:Row w1 w.heap.size 5 (arrB m xs):=(by rw[arrB_listB,←splice_first m xs];exact R1.out);have c1:=(r1.cell n).trans (arrB_get m xs n (by rw[HL.out];omega) (by omega));have f1:=r1.frozen n;have RR:=Lib.hid r1;have BB:=Lib.hid b1;clear r1 R1 H0 HB HC b1)
 have r2:Row (w1.setCell ⟨w.heap.size,n,none⟩ (.int .u8 128)) w.heap.size 5 (arrB m (xs++[128])):=by
   rw[←arrB_put_at m xs 128 n HL.out (by omega)]
   exact RR.out.put n _
 have b2:Below w.heap.size w (w1.setCell ⟨w.heap.size,n,none⟩ (.int .u8 128)):=BB.out.setCell (Nat.le_refl _) _
 clear c1 f1 RR BB
 generalize w1.setCell ⟨w.heap.size,n,none⟩ (.int .u8 128)=w2 at *
 refine(len_any (n:Int) w2 (by omega) (by omega)).mono ?_
 rintro e w3 ⟨rfl,hb3⟩
 have s2:=r2.lt
 have s3:=hb3.size
 have r3:Hid (Row w3 w.heap.size 5 (arrB m (xs++[128]))):=r2.below hb3 r2.lt
 have b3:Hid (Below w.heap.size w w3):=b2.trans (hb3.mono (by omega))
 clear hb3 r2 b2
 have hls:Hid (((lenL (n:Int)).map u8v).toArray.size=8):=rfl
 have hlo:Hid (((lenL (n:Int)).map u8v).toArray.all (·.oneCell')=true):=by
   show _=_
   simp[lenL,u8v,Value.oneCell']
 have hlc:Hid ((lenL (n:Int)).map u8v=(lenL (xs.length:Int)).map u8v):=by rw[HL.out];exact rfl
 generalize (lenL (n:Int)).map u8v=ll at *
 go_wp2_with (first
   |((with_reducible refine wpList_store_row (o:=⟨none, .store 212 _ _,_,_,_,_⟩) ?_ 212 (.tmp 6) (.tmp 27) ?_ w3.heap.size ll.toArray ?_ ?_ 212 _ (heap_alloc_last w3 _) (info36 _ hls.out) ?_ hlo.out ?_);(rfl);(rfl);(rfl);(rfl);(rw[hls.out];rfl);rw[World.setRow_alloc_new])
   |fail)
 have R4:Hid (Row (w3.alloc (.cells ll.toArray 212)) w.heap.size 5 (arrB m (xs++[128]))):=r3.out.alloc _
 have R5:Hid (Row (w3.alloc (.cells ll.toArray 212)) w3.heap.size 212 ll.toArray):=Row.new _ _ _
 have b4:Hid (Below w.heap.size w (w3.alloc (.cells ll.toArray 212))):=Lib.hid (b3.out.alloc (by omega) _)
 clear r3 b3
 generalize w3.alloc (.cells ll.toArray 212)=w4 at *
 have s8:IntKind.i64.wrap ((m:Int) - 8)=((m- 8:Nat):Int):=by rw[IntWalk.i64_in _ (by omega)];omega
 have s8a:m- 8≤m:=by omega
 have s8b:((m- 8:Nat):Int)≤(m:Int):=by omega
 have s8c: ¬(m=m- 8):=by omega
 have s8d:m- (m- 8)=8:=by omega
 go_still_tail 5,(by kernel_rfl)
 clear s8 s8a s8b s8c s8d
 change wpList _ _ _ _ _ w4.drew
 refine wpList_copy_splice (o:=⟨some 33,_,_,_,_,_⟩) rfl (.tmp 31) (.tmp 32) 100 100 rfl 5 underlying100 info5s _ _ 8 8 8 8 rfl rfl w.heap.size (m- 8) (listB m (xs++[128])) 5 R4.out.drew ll (by have:=hls.out;simpa using this) ?_ (by rw[listB_len _ _ (by rw[List.length_append,HL.out];simp;omega)];have:=hls.out;simp at this;omega) (by have:=hlo.out;simpa using this) w.heap.size w b4.out.drew (Nat.le_refl _) ?_
 · intro _
   refine⟨rfl,⟨w3.heap.size,0,none⟩,rfl,fun j v hv=>?_⟩
   rw[Addr.add_mid,Nat.zero_add,R5.out.drew.cell j]
   simpa using hv
 intro w5 R6 b5
 have R7:Hid (Row w5 w.heap.size 5 (arrB m (padL xs m))):=by
   show Row _ _ _ _
   rw[arrB_listB,←splice_last m xs (by rw[HL.out];omega),←hlc.out]
   exact R6.out
 clear R6 R4 R5
 go_wp2
 go_ret
 exact⟨rfl,R7.out,b5⟩
structure Tables(w:World):Prop where
  words: ∀i,i<8→w.cell? ⟨0,i,none⟩=some (.int .u32 (firstW.get i))
  rounds: ∀i,i<64→w.cell? ⟨1,i,none⟩=some (.int .u32 (roundNs.getD i 0))
  there:1<w.heap.size
theorem Tables.below{w w':World}(h:Tables w)(hb:Below w.heap.size w w'):Tables w':=
 ⟨fun i hi=>(hb.cell (p:=⟨0,i,none⟩) (by have:=h.there;simp;omega)).trans (h.words i hi),fun i hi=>(hb.cell (p:=⟨1,i,none⟩) h.there).trans (h.rounds i hi),Nat.lt_of_lt_of_le h.there hb.size⟩
theorem padL_range(xs:List Int)(m:Nat)(hn:xs.length≤70368744177664)(hr: ∀x∈xs,0≤x∧x≤255): ∀x∈padL xs m,0≤x∧x≤255:=by
 intro x hx
 simp only[padL,List.mem_append,List.mem_replicate,lenL,List.mem_cons,List.not_mem_nil,or_false]at hx
 rcases hx with ((hx|hx)|hx)|hx
 · exact hr x hx
 · omega
 · omega
 · omega
theorem getD_range(l:List Int)(h: ∀x∈l,0≤x∧x≤255)(i:Nat):0≤l.getD i 0∧l.getD i 0≤255:=by
 by_cases hi:i<l.length
 · have e:l.getD i 0=l[i]:=by simp[List.getD,List.getElem?_eq_getElem hi]
   rw[e]
   exact h _ (List.getElem_mem hi)
 · have e:l.getD i 0=0:=by simp[List.getD,List.getElem?_eq_none (by omega:l.length≤i)]
   rw[e]
   omega
def sumL(xs:List Int):List Int:=idPre (sumK (padL xs ((xs.length+72) /64*64)) ((xs.length+72) /64)) 8
theorem sum_any(A:Option Addr)(n c:Nat)(xs:List Int)(w:World)(hl:xs.length=n)(hn:n≤70368744177664)(hx:Bytes w w.heap.size A xs)(hr: ∀x∈xs,0≤x∧x≤255)(ht:Tables w):
   Calls Tryz.prog 110 #[.slice A n c] w fun e w'=>e= .returned (.agg (arrB 32 (sumL xs)))∧Below w.heap.size w w':=by
 have HL:=Lib.hid hl
 have hsum:Hid (sumL xs=idPre (sumK (padL xs ((n+72) /64*64)) ((n+72) /64)) 8):=by show _=_;rw[←hl];rfl
 have HP:=Lib.hid (padL_range xs ((n+72) /64*64) (by omega) hr)
 have HQ:=Lib.hid (padL_len xs ((n+72) /64*64) (by omega))
 have HB0:=Lib.hid (((Below.refl w.heap.size w).alloc (Nat.le_refl _) (.cells (arrB 32 []) 26)))
 have HX:=Lib.hid (hx.below HB0.out)
 clear hx hr hl
 go_enter func110,ntmps110
 go_wp2_with fail
 refine(pad_any A n c xs _ HL.out hn (fun h=>?_)).mono ?_
 · obtain⟨ad,e,hlt,hc⟩:=HX.out h
   exact⟨ad,e,by simp;omega,hc⟩
 rintro e w1 ⟨rfl,r1,b1⟩
 rw[World.size_alloc]at r1 b1
 have q1:(n+72) /64≤1099511627778:=by omega
 generalize padL xs ((n+72) /64*64)=pp at *
 generalize (n+72) /64=q at *
 have bw:Below w.heap.size w w1:=HB0.out.trans (b1.mono (by omega))
 have t1:=ht.below bw
 have rz:Hid (Row w1 w.heap.size 26 (arrB 32 [])):=(Row.new w 26 _).below b1 (by omega)
 have c0:=t1.words 0 (by omega)
 have c1:=t1.words 1 (by omega)
 have c2:=t1.words 2 (by omega)
 have c3:=t1.words 3 (by omega)
 have c4:=t1.words 4 (by omega)
 have c5:=t1.words 5 (by omega)
 have c6:=t1.words 6 (by omega)
 have c7:=t1.words 7 (by omega)
 have R1:=Lib.hid r1
 clear r1 HB0 HX
 go_wp2_with fail
 clear c0 c1 c2 c3 c4 c5 c6 c7
 have s1:=R1.out.lt
 go_loopw [12] (fun i u=> ∃k:Nat,k≤q∧i= .int .i64 k∧Below w.heap.size w u∧Hid (Row u w.heap.size 26 (arrB 32 [])∧Row u (w.heap.size+1) 5 (arrB (q*64) pp)∧Row u w1.heap.size 180 (sumK pp k).cells)) (fun i _=>q- (intOf i).toNat)
 case atStart=>exact⟨0,by omega,rfl,bw.alloc (by omega) _,rz.out.alloc _,R1.out.alloc _,Row.new w1 180 _⟩
 case round=>
   obtain⟨k,hk,rfl,hbl,hrows⟩:=hrel
   obtain⟨r0,r1,r2⟩:=hrows.out
   by_cases hlt:k<q
   · have hst:Hid (sumK pp (k+1)=mixS (sumK pp k) (pp.drop (64*k))):=rfl
     generalize sumK pp k=st at *
     have e0:wr.cell? ⟨w1.heap.size,0,none⟩=some (.int .u32 st.a):=r2.cell 0
     have e1:wr.cell? ⟨w1.heap.size,1,none⟩=some (.int .u32 st.b):=r2.cell 1
     have e2:wr.cell? ⟨w1.heap.size,2,none⟩=some (.int .u32 st.c):=r2.cell 2
     have e3:wr.cell? ⟨w1.heap.size,3,none⟩=some (.int .u32 st.d):=r2.cell 3
     have e4:wr.cell? ⟨w1.heap.size,4,none⟩=some (.int .u32 st.e):=r2.cell 4
     have e5:wr.cell? ⟨w1.heap.size,5,none⟩=some (.int .u32 st.f):=r2.cell 5
     have e6:wr.cell? ⟨w1.heap.size,6,none⟩=some (.int .u32 st.g):=r2.cell 6
     have e7:wr.cell? ⟨w1.heap.size,7,none⟩=some (.int .u32 st.h):=r2.cell 7
     have R0:Hid (Row wr.drew w.heap.size 26 (arrB 32 [])):=r0
     have R1':Hid (Row wr.drew (w.heap.size+1) 5 (arrB (q*64) pp)):=r1
     have R2:Hid (Row wr.drew w1.heap.size 180 st.cells):=r2
     clear r0 r1 r2 hrows
     have hl2:(k:Int)<(q:Int):=by omega
     have a1:IntKind.i64.wrap ((k:Int)*64)=(k:Int)*64:=IntWalk.i64_in _ (by omega)
     have a2:IntKind.i64.wrap ((k:Int)+1)=(k:Int)+1:=IntWalk.i64_in _ (by omega)
     have a3:IntKind.i64.wrap (((k:Int)+1)*64)=((k:Int)+1)*64:=IntWalk.i64_in _ (by omega)
     have a4:(((k:Int)+1)*64).toNat=(k+1)*64:=by omega
     have a5:((k:Int)*64).toNat=k*64:=by omega
     have a6:0≤(k:Int)*64:=by omega
     have a7:(k:Int)*64≤((k:Int)+1)*64:=by omega
     have a8:((k:Int)+1)*64≤(q:Int)*64:=by omega
     have a9: ¬(q*64=k*64):=by omega
     have aa:(k+1)*64- k*64=64:=by omega
     have ab:0≤((k:Int)+1)*64:=by omega
     have ac:(k:Int)+1≤(q:Int):=by omega
     have ad:(k:Int)≤(k:Int)+1:=by omega
     go_wp2_with fail
     go_still_tail 8,(by kernel_rfl)
     clear a1 a2 a3 a4 a5 a6 a7 a8 a9 aa ab ac ad
     change wpList _ _ _ _ _ wr.drew
     go_wp2_with fail
     change Calls Tryz.prog 168 #[Value.agg st.cells,Value.slice (some ⟨w.heap.size+1,k*64,none⟩) 64 (q*64- k*64)] _ _
     refine(mix_any st (w.heap.size+1) (k*64) 64 (q*64- k*64) (pp.drop (64*k)) _ (by omega) (by omega) (by omega) R1'.out.lt ?_ ?_ ?_ ?_).mono ?_
     · intro i hi
       rw[R1'.out.cell,arrB_get _ _ _ (by rw[HQ.out];omega) (by omega)]
       simp[List.getD,List.getElem?_drop,Nat.mul_comm]
     · exact getD_range _ (fun x hx=>HP.out x (List.mem_of_mem_drop hx))
     · exact Nat.lt_of_lt_of_le ht.there hbl.size
     · exact(ht.below hbl).rounds
     rintro e w3 ⟨rfl,hb3⟩
     have Q2:Hid (w3.heap[w1.heap.size]?=some (.cells st.cells 180 (0,0))):=R2.out.below hb3 R2.out.lt
     have Q1:Hid (Row w3 (w.heap.size+1) 5 (arrB (q*64) pp)):=R1'.out.below hb3 R1'.out.lt
     have Q0:Hid (Row w3 w.heap.size 26 (arrB 32 [])):=R0.out.below hb3 R0.out.lt
     have bl3:Below w.heap.size w w3:=hbl.drew.trans (hb3.mono hbl.size)
     clear hb3 e0 e1 e2 e3 e4 e5 e6 e7
     generalize mixS st (pp.drop (64*k))=st2 at *
     go_wp2_with ((with_reducible refine wpList_store_row (o:=⟨none, .store 180 _ _,_,_,_,_⟩) ?_ 180 (.tmp 4) (.tmp 23) ?_ w1.heap.size st2.cells ?_ ?_ 180 st.cells Q2.out (info40 st2) ?_ st2.cells_one ?_);(rfl);(rfl);(rfl);(rfl);(rfl))
     go_roundw
     case rel=>
       refine⟨k+1,by omega,by go_num,below_setRow bl3 (by omega) _,Q0.out.setRowFar (by omega),Q1.out.setRowFar (by omega),?_⟩
       rw[hst.out]
       exact Row.setRow Q2.out
     case measure=>simp[intOf];omega
   · obtain rfl:k=q:=by omega
     have hfin:Hid (sumL xs=idPre (sumK pp k) 8):=hsum
     generalize sumK pp k=st at *
     have Z2:Hid (wr.heap[w1.heap.size]?=some (.cells st.cells 180 (0,0))):=r2
     have Z0:Hid (Row wr w.heap.size 26 (arrB 32 [])):=r0
     clear r0 r1 r2 hrows
     go_wp2_with ((with_reducible refine wpList_load_row (o:=⟨some 25,_,_,_,_,_⟩) ?_ 180 (.tmp 4) ?_ w1.heap.size ?_ 180 st.cells (0,0) _ Z2.out underlying180 ?_ (info40 st) ?_);(rfl);(rfl);(rfl);(rfl))
     refine(id_any st wr).mono ?_
     rintro e w3 ⟨rfl,hb3⟩
     have hsz:Hid ((arrB 32 (idPre st 8)).size=32∧(arrB 32 []).size=(arrB 32 (idPre st 8)).size∧(arrB 32 (idPre st 8)).all (·.oneCell')=true):=
       Lib.hid ⟨arrB_size _ _ (by rw[idPre_len];omega),by rw[arrB_size 32 (idPre st 8) (by rw[idPre_len];omega),arrB_size 32 [] (by simp)],arrB_one _ _⟩
     have Q0:Hid (w3.heap[w.heap.size]?=some (.cells (arrB 32 []) 26 (0,0))):=Z0.out.below hb3 Z0.out.lt
     have bl3:Below w.heap.size w w3:=hbl.trans (hb3.mono hbl.size)
     clear hb3 Z0 Z2
     have HF:Hid (arrB 32 (sumL xs)=arrB 32 (idPre st 8)):=by show _=_;rw[hfin.out]
     generalize arrB 32 (idPre st 8)=cs at *
     generalize arrB 32 []=zs at *
     go_wp2_with (first
       |((with_reducible refine wpList_store_row (o:=⟨none, .store 26 _ _,_,_,_,_⟩) ?_ 26 (.tmp 2) (.tmp 26) ?_ w.heap.size cs ?_ ?_ 26 zs Q0.out (info26 cs hsz.out.1) hsz.out.2.1 hsz.out.2.2 ?_);(rfl);(rfl);(rfl);(rfl))
       |((with_reducible refine bodyPost_ret (v:= .agg cs) ?_ ?_ ?_);(exact results_cell_row (p:=2) (ty:=26) results110 _ _ w.heap.size 26 cs (0,0) _ rfl (setRow_heap _ _ zs cs 26 (0,0) Q0.out) underlying26 rfl (info26 cs hsz.out.1));(rfl)))
     exact⟨by rw[HF.out],below_setRow bl3 (Nat.le_refl _) _⟩
theorem sumL_len(xs:List Int):(sumL xs).length=32:=by unfold sumL;rw[idPre_len]
theorem gFirst:Tryz.prog.globalNamed "stepladder/sha.firstWords" =some 0:=by kernel_rfl
theorem gFirstType:(Tryz.prog.globals[0]?).map (·.type)=some 180:=by kernel_rfl
theorem gRound:Tryz.prog.globalNamed "stepladder/sha.roundNumbers" =some 1:=by kernel_rfl
theorem gRoundType:(Tryz.prog.globals[1]?).map (·.type)=some 214:=by kernel_rfl
theorem cells40:Tryz.prog.cellsOf 180=8:=by kernel_rfl
theorem cells48:Tryz.prog.cellsOf 214=64:=by kernel_rfl
theorem cells39:Tryz.prog.cellsOf 27=1:=by kernel_rfl
def laidBoth:List (String × DataW Unit):=[("stepladder/sha.firstWords",Rows.laid_stepladder_sha_firstWords),("stepladder/sha.roundNumbers",Rows.laid_stepladder_sha_roundNumbers)]
theorem tables_of_laid{W:World}(h:laidMetH Tryz.prog laidBoth W):Tables W:=by
 have h1:Lib.TabIs Tryz.prog W "stepladder/sha.firstWords" .u32 [1779033703,3144134277,1013904242,2773480762,1359893119,2600822924,528734635,1541459225]:=
  Lib.tabIs_of_head (rest:=[("stepladder/sha.roundNumbers",Rows.laid_stepladder_sha_roundNumbers)]) gFirst gFirstType underlying180 underlying27 cells39 cells40 h
 have h2:Lib.TabIs Tryz.prog W "stepladder/sha.roundNumbers" .u32 roundNs:=
  Lib.tabIs_of_head (rest:=[]) gRound gRoundType underlying214 underlying27 cells39 cells48 (h.filter (fun x=>x.1== "stepladder/sha.roundNumbers"))
 refine⟨fun i hi=>h1.cell gFirst i hi,fun i hi=>h2.cell gRound i hi,?_⟩
 have:=h2.cell gRound 0 (by decide)
 rcases Nat.lt_or_ge 1 W.heap.size with hl|hl
 · exact hl
 · simp[World.cell?,Array.getElem?_eq_none hl]at this
def withCells(cs:Array Value):Obj→Obj
  | .cells _ t frozen=> .cells cs t frozen
  |o=>o
noncomputable def laidWorld (os:Os):World:=
  {World.holding Tryz.prog os ⟨#[],#[],[]⟩with heap:=((World.holding Tryz.prog os ⟨#[],#[],[]⟩).heap.modify 0 (withCells firstW.cells)).modify 1 (withCells (roundNs.map u32v).toArray)}
structure EnvX(w u:World)(l:List (Nat × Obj)):Prop where
  bel:Below w.heap.size w u
  box: ∀g o,(g,o)∈l→u.heap[g]?=some o
theorem EnvX.lt{w u:World}{l:List (Nat × Obj)}(h:EnvX w u l){g:Nat}{o:Obj}(hm:(g,o)∈l):g<u.heap.size:=by
 have h1:=h.box g o hm
 rcases Nat.lt_or_ge g u.heap.size with h2|h2
 · exact h2
 · rw[Array.getElem?_eq_none h2]at h1
   cases h1
theorem EnvX.start(w:World):EnvX w w []:=⟨Below.refl _ _,fun _ _ h=>by cases h⟩
theorem EnvX.below{w u v:World}{l:List (Nat × Obj)}(h:EnvX w u l)(hb:Below u.heap.size u v):EnvX w v l:=
 ⟨h.bel.trans (hb.mono h.bel.size),fun g o hm=>(hb.block g (h.lt hm)).trans (h.box g o hm)⟩
theorem EnvX.drew{w u:World}{l:List (Nat × Obj)}(h:EnvX w u l):EnvX w u.drew l:=⟨h.bel.drew,h.box⟩
theorem EnvX.new{w u:World}{l:List (Nat × Obj)}(h:EnvX w u l)(o:Obj):EnvX w (u.alloc o) ((u.heap.size,o)::l):=by
 refine⟨h.bel.alloc h.bel.size _,fun g o' hm=>?_⟩
 rcases List.mem_cons.1 hm with e|e
 · cases e
   exact heap_alloc_new u o
 · exact(Below.heap_alloc u o g (h.lt e)).trans (h.box g o' e)
theorem EnvX.two{w u:World}{l:List (Nat × Obj)}(h:EnvX w u l)(o o':Obj):EnvX w ((u.alloc o).alloc o') ((u.heap.size+1,o')::(u.heap.size,o)::l):=by
 have h1:=(h.new o).new o'
 rwa[World.size_alloc]at h1
theorem EnvX.sub{w u:World}{l l':List (Nat × Obj)}(h:EnvX w u l)(hs: ∀x∈l',x∈l):EnvX w u l':=⟨h.bel,fun g o hm=>h.box g o (hs _ hm)⟩
theorem EnvX.row{w u:World}{l:List (Nat × Obj)}(h:EnvX w u l){g:Nat}{cs:Array Value}{t:TypeId}(hm:(g,Obj.cells cs t (0,0))∈l):Row u g t cs:=h.box g _ hm
def EnvC(w:World)(l:List (Nat × Obj))(u:World):Prop:=EnvX w u l
theorem EnvC.box{w u:World}{l:List (Nat × Obj)}(h:EnvC w l u)(g:Nat)(o:Obj)(hm:(g,o)∈l):u.heap[g]?=some o:=EnvX.box h g o hm
theorem EnvC.call{w u:World}{l:List (Nat × Obj)}{P:Program}{f:FuncId}{args:Array Value}{v:Value}(hu:EnvC w l u)
  (h:Calls P f args u fun e w'=>e= .returned v∧Below u.heap.size u w'):Calls P f args u fun e w'=>e= .returned v∧EnvC w l w':=
 h.mono fun _ _⟨he,hb⟩=>⟨he,EnvX.below hu hb⟩
theorem EnvC.one{w u:World}{l:List (Nat × Obj)}(h:EnvX w u l)(x y:Value):(∀v,EnvC w l v→x=y) ↔x=y:=⟨fun k=>k u h,fun e _ _=>e⟩
section
variable {P:Program}{C:World→Prop}{a:Act}{o:Oper}{K:Act→Prop}
end
section
variable {P:Program}{ops:Array Oper}{md:Region.Mode}{S:World→Prop}{w0:World}
def GUpon(P:Program)(u:World)(v:Value):Result Next→Prop
  | .ok (.value x) u'=>u'=u∧x=v
  | .ok .skip u'=>u'=u∧v=undef
  | .ok (.enter f args) u'=>u'=u∧Calls P f args u (fun e w''=>e= .returned v∧Below u.heap.size u w'')
  |_=>False
def GAt(P:Program)(o:Oper)(a:Act)(v:Value)(u:World):Prop:=GUpon P u v ((execOp a.eval o).run P u)
def pureB(o:Oper):Bool:=match o.op with| .move _| .assign _| .extract _ _=>true|_=>false
def turnsB(f:FuncId):Bool:=f==63||f==99999999||f==99999999||f==99999999||f==99999999||f==99999999||f==99999999||f==236||f==99999999||f==78||f==146||f==96||f==38||f==46||f==36||f==41||f==47||f==43||f==13||f==17||f==15||f==40||f==14||f==18||f==16
def storeB(o:Oper):Bool:=match o.op with| .store _ _ _=>true| .call c=>(match c.callee with| .builtin .append=>true| .builtin .copy=>true| .builtin .clear=>true| .value (.tmp _)=>true| .value (.func f)=>turnsB f|_=>false)|_=>false
theorem pure_any{o:Oper}(h:pureB o=true){a:Act}{v:Value}{u:World}(hq:GAt P o a v u)(u':World):GAt P o a v u':=by
 unfold GAt at *
 unfold pureB at h
 unfold execOp at *
 cases hop:o.op<;>simp only[hop]at h hq ⊢ <;>first|(cases h;done)|skip
 case move x=>exact⟨rfl,hq.2⟩
 case assign x=>exact⟨rfl,hq.2⟩
 case extract x i=>
  cases hx:a.eval x with
  |tuple vs=>
   simp only[hx,Instr.extract]at hq ⊢
   cases hv:vs[i]? with
   |none=>simp only[hv]at hq;exact hq.elim
   |some y=>simp only[hv]at hq ⊢;exact⟨rfl,hq.2⟩
  |_=>simp only[hx,Instr.extract]at hq;exact hq.elim
def NewAt(P:Program)(o:Oper)(a:Act)(z:Obj):Prop:= ∀u,(execOp a.eval o).run P u= .ok (.value (.pointer (some ⟨u.heap.size,0,none⟩))) (u.alloc z)
def PutAt(P:Program)(o:Oper)(a:Act)(g:Nat)(old cs:Array Value)(t:TypeId):Prop:= ∀u,u.heap[g]?=some (.cells old t (0,0))→(execOp a.eval o).run P u= .ok .skip (u.setRow g cs)
def gOp (P:Program) (ops:Array Oper) (S:World→Prop) (w0:World) (i:Nat) (K:Act→Bool→List (Nat × Obj)→Prop) (a:Act) (b:Bool) (M:List (Nat × Obj)):Prop:=
  match ops[i]? with
  |none=>K a b M
  | some o=>if Region.wanted o (yielded ops a.tmps)then
      ((∃v,((b=true∧ ∀u,S u→GAt P o a v u)∨ ∀u,GAt P o a v u)∧K (a.put o.dst v) b M)∨
       (∃z,NewAt P o a z∧ ∀g,w0.heap.size≤g→(∀x∈M,x.1≠g)→K (a.put o.dst (.pointer (some ⟨g,0,none⟩))) b ((g,z)::M))∨
       (storeB o=true∧ ∃g old cs t M',w0.heap.size≤g∧(g,Obj.cells old t (0,0))∈M∧PutAt P o a g old cs t∧(∀x∈M',x=(g,Obj.cells cs t (0,0))∨(x∈M∧x.1≠g))∧K (a.put o.dst undef) false M'))
    else K (a.put o.dst undef) b M
def wpAnyG(P:Program)(md:Region.Mode)(ops:Array Oper)(S:World→Prop)(w0:World)(Q:Act→Bool→List (Nat × Obj)→Prop):Nat→Array Bool→Act→Bool→List (Nat × Obj)→Prop
  |0,listed,a,b,M=>Region.ready md ops listed=[]∧Q a b M
  |f+1,listed,a,b,M=>(Region.ready md ops listed=[]→Q a b M)∧ ∀i∈Region.ready md ops listed,gOp P ops S w0 i (wpAnyG P md ops S w0 Q f (listed.setIfInBounds i true)) a b M
def GT(S:World→Prop)(w0:World)(b:Bool)(M:List (Nat × Obj))(u:World):Prop:=(b=true→S u)∧EnvX w0 u M
theorem EnvX.put{w u:World}{l l':List (Nat × Obj)}(h:EnvX w u l){g:Nat}{old cs:Array Value}{t:TypeId}(hg:w.heap.size≤g)(hm:(g,Obj.cells old t (0,0))∈l)
   (hl: ∀x∈l',x=(g,Obj.cells cs t (0,0))∨(x∈l∧x.1≠g)):EnvX w (u.setRow g cs) l':=by
 refine⟨below_setRow h.bel hg _,fun k o hk=>?_⟩
 rcases hl _ hk with e|⟨hk',hne⟩
 · cases e
   exact setRow_heap u g old cs t (0,0) (h.box g _ hm)
 · exact(setRow_other u g k cs hne).trans (h.box k o hk')
theorem wpOp_of_gOp {i:Nat} {a:Act} {b:Bool} {M:List (Nat × Obj)} {K:Act→Bool→List (Nat × Obj)→Prop} {K':Act→World→Prop} {Q':Exit→Act→World→Prop} {u:World}
   (hS: ∀u v,S u→Below u.heap.size u v→S v) (hu:GT S w0 b M u) (h: ∀a b M u,GT S w0 b M u→K a b M→K' a u) (hh:gOp P ops S w0 i K a b M):wpOp P ops Q' i K' a u:=by
 unfold gOp at hh
 unfold wpOp
 split
 · rename_i ho;simp only[ho]at hh;exact h _ _ _ _ hu hh
 · rename_i o ho
   simp only[ho]at hh
   split
   · rename_i hw
     simp only[hw,if_true]at hh
     refine .inl ?_
     rcases hh with ⟨v,hv,hK⟩|⟨z,hz,hK⟩|⟨_,g,old,cs,t,M',hg,hm,hp,hM',hK⟩
     · have h3:GAt P o a v u:=by
        rcases hv with ⟨hb,hv⟩|hv
        · exact hv u (hu.1 hb)
        · exact hv u
       unfold GAt at h3
       unfold Oper.wp
       generalize (execOp a.eval o).run P u=r at *
       cases r with
       |ok n w'=>
        cases n<;>simp only[GUpon]at h3<;>simp only[Oper.upon]
        case value x=>
          obtain⟨e1,e2⟩:=h3
          rw[e1,e2]
          exact h _ _ _ _ hu hK
        case skip=>
          obtain⟨e1,e2⟩:=h3
          rw[e1,←e2]
          exact h _ _ _ _ hu hK
        case enter f args=>
          obtain⟨e1,hc⟩:=h3
          rw[e1]
          exact hc.mono fun e w''⟨he,hb⟩=>by subst he;exact h _ _ _ _ ⟨fun hb'=>hS _ _ (hu.1 hb') hb,hu.2.below hb⟩ hK
       |halt x w'=>simp only[GUpon]at h3
     · unfold Oper.wp
       rw[hz u]
       simp only[Oper.upon]
       have hfresh: ∀x∈M,x.1≠u.heap.size:=fun x hx he=>by
        have:=hu.2.lt (g:=x.1) (o:=x.2) hx
        omega
       exact h _ _ _ _ ⟨fun hb=>hS _ _ (hu.1 hb) ((Below.refl _ _).alloc (Nat.le_refl _) _),hu.2.new z⟩ (hK _ hu.2.bel.size hfresh)
     · unfold Oper.wp
       rw[hp u (hu.2.box g _ hm)]
       simp only[Oper.upon]
       exact h _ _ _ _ ⟨(fun hb=>by cases hb),hu.2.put hg hm hM'⟩ hK
   · rename_i hw;simp only[hw]at hh;exact h _ _ _ _ hu hh
theorem wpAny_of_G(hS: ∀u v,S u→Below u.heap.size u v→S v){Q:Act→Bool→List (Nat × Obj)→Prop}{Q':Exit→Act→World→Prop}(hQ: ∀a b M u,GT S w0 b M u→Q a b M→Q' .normal a u):
  ∀(f:Nat)(listed:Array Bool)(a:Act)(b:Bool)(M:List (Nat × Obj))(u:World),GT S w0 b M u→wpAnyG P md ops S w0 Q f listed a b M→wpAny P md ops Q' f listed a u
 |0,_,_,_,_,_,hu,h=>⟨h.1,hQ _ _ _ _ hu h.2⟩
 |f+1,_,_,_,_,_,hu,h=>⟨fun h0=>hQ _ _ _ _ hu (h.1 h0),fun i hi=>wpOp_of_gOp hS hu (fun a' b' M' u' hu'=>wpAny_of_G hS hQ f _ a' b' M' u' hu') (h.2 i hi)⟩
def ancB (md:Region.Mode) (ops:Array Oper):Nat→Nat→Nat→Bool
  |0,_,_=>false
  | f+1,j,i=>match ops[j]? with
    |some o=>o.after.any fun e=>Region.binds md e&& (e.on==i||ancB md ops f e.on i)
    |none=>false
def closedL(md:Region.Mode)(ops:Array Oper)(listed:Array Bool):Prop:=
  ∀j oj,ops[j]?=some oj→listed.getD j false=true→ ∀e∈oj.after,Region.binds md e=true→listed.getD e.on false=true
theorem anc_listed{listed:Array Bool}(hc:closedL md ops listed){i:Nat}: ∀(f j:Nat),(∀oj,ops[j]?=some oj→ ∀e∈oj.after,Region.binds md e=true→listed.getD e.on false=true)→ancB md ops f j i=true→listed.getD i false=true
 |0,_,_,h=>by simp[ancB]at h
 |f+1,j,hj,h=>by
  unfold ancB at h
  split at h
  · rename_i o ho
    obtain⟨e,he,hb⟩:=Array.any_eq_true'.1 h
    simp only[Bool.and_eq_true,Bool.or_eq_true,beq_iff_eq]at hb
    have hl:=hj o ho e he hb.1
    rcases hb.2 with h1|h1
    · rw[←h1];exact hl
    · exact anc_listed hc f e.on (fun oj hoj e' he' hb'=>hc e.on oj hoj hl e' he' hb') h1
  · cases h
theorem closedL_set{listed:Array Bool}{i:Nat}(hc:closedL md ops listed)(hi:i∈Region.ready md ops listed):closedL md ops (listed.setIfInBounds i true):=by
 obtain⟨_,oi,hoi,hall⟩:=mem_ready.1 hi
 intro j oj hj hl e he hb
 by_cases hij:i=j
 · subst hij
   have:oj=oi:=Option.some.inj (hj.symm.trans hoi)
   subst this
   exact getD_set_true (hall e he hb)
 · rw[getD_set_ne false hij]at hl
   exact getD_set_true (hc j oj hj hl e he hb)
def YieldsG(P:Program)(ops:Array Oper)(S:World→Prop)(o:Oper)(v:Value)(b:Bool)(a:Act):Prop:=
  (Region.wanted o (yielded ops a.tmps)=true∧((b=true∧ ∀u,S u→GAt P o a v u)∨ ∀u,GAt P o a v u))∨
  (Region.wanted o (yielded ops a.tmps)=false∧v=undef)
theorem YieldsG.gOp{i:Nat}{o:Oper}{v:Value}{a:Act}{b:Bool}{M:List (Nat × Obj)}(hi:ops[i]?=some o)(hy:YieldsG P ops S o v b a){K:Act→Bool→List (Nat × Obj)→Prop}(h:K (a.put o.dst v) b M):gOp P ops S w0 i K a b M:=by
 unfold Go.Proofs.YtojmeodoenkapaaGreatDoor.gOp
 simp only[hi]
 rcases hy with ⟨hw,hv⟩|⟨hw,rfl⟩
 · simp only[hw,if_true];exact .inl ⟨v,hv,h⟩
 · simp only[hw,Bool.false_eq_true,if_false];exact h
theorem YieldsG.of_same{o:Oper}{v:Value}{a a':Act}{b:Bool}(hy:YieldsG P ops S o v b a)(he:execOp a'.eval o=execOp a.eval o)
  (hw:Region.wanted o (yielded ops a'.tmps)=Region.wanted o (yielded ops a.tmps)):YieldsG P ops S o v b a':=by
 unfold YieldsG GAt at *
 rw[he,hw]
 exact hy
theorem gOp_put{j:Nat}{oi oj:Oper}{v:Value}{b:Bool}{M:List (Nat × Obj)}(hj:ops[j]?=some oj)(hap:oi.apart ops oj=true)
   (hsi: ∀cs b,oi.op≠ .select cs b) (hsj: ∀cs b,oj.op≠ .select cs b) {K:Act→Bool→List (Nat × Obj)→Prop} {a:Act}
   (hy:YieldsG P ops S oi v b a) (hst:storeB oj=true→YieldsG P ops S oi v false a) (h:gOp P ops S w0 j K (a.put oi.dst v) b M):
   gOp P ops S w0 j (fun a' b' M'=>YieldsG P ops S oi v b' a'∧(b'=b∨storeB oj=true)∧K (a'.put oi.dst v) b' M') a b M:=by
 obtain⟨h1,h2,h3⟩:=Oper.apart_spec hap
 have keep: ∀(a:Act)(b:Bool),YieldsG P ops S oi v b a→ ∀u,YieldsG P ops S oi v b (a.put oj.dst u):=fun a b hy u=>
   hy.of_same (execOp_put oi hsi a oj.dst u h3) (wanted_put oi a oj.dst u h3)
 have hex:=execOp_put (ops:=ops) oj hsj a oi.dst v h1
 unfold gOp at *
 simp only[hj]at *
 rw[wanted_put oj a oi.dst v h1]at h
 split
 · rename_i hw
   simp only[hw,if_true]at h
   rcases h with ⟨x,hx,hK⟩|⟨z,hz,hK⟩|⟨hs,g,old,cs,t,M',hg,hm,hp,hM',hK⟩
   · refine .inl ⟨x,?_,keep a b hy x,by simp,by rw[←Act.put_comm a v x h2];exact hK⟩
     unfold GAt at *
     rw[hex]at hx
     exact hx
   · refine .inr (.inl ⟨z,?_,fun g hg hf=>⟨keep a b hy _,by simp,by rw[←Act.put_comm a v _ h2];exact hK g hg hf⟩⟩)
     unfold NewAt at *
     rw[hex]at hz
     exact hz
   · refine .inr (.inr ⟨hs,g,old,cs,t,M',hg,hm,?_,hM',keep a false (hst hs) _,by simp[hs],by rw[←Act.put_comm a v _ h2];exact hK⟩)
     unfold PutAt at *
     rw[hex]at hp
     exact hp
 · rename_i hw
   simp only[hw]at h
   exact⟨keep a b hy _,by simp,by rw[←Act.put_comm a v undef h2];exact h⟩
theorem gOp_mono{i:Nat}{a:Act}{b:Bool}{M:List (Nat × Obj)}{K K':Act→Bool→List (Nat × Obj)→Prop}(h: ∀a b M,K a b M→K' a b M)(hh:gOp P ops S w0 i K a b M):gOp P ops S w0 i K' a b M:=by
 unfold gOp at *
 split
 · exact h _ _ _ (by simpa [*] using hh)
 · rename_i o ho
   simp only[ho]at hh
   split
   · rename_i hw
     simp only[hw,if_true]at hh
     rcases hh with ⟨v,hv,hK⟩|⟨z,hz,hK⟩|⟨hs,g,old,cs,t,M',hg,hm,hp,hM',hK⟩
     · exact .inl ⟨v,hv,h _ _ _ hK⟩
     · exact .inr (.inl ⟨z,hz,fun g hg hf=>h _ _ _ (hK g hg hf)⟩)
     · exact .inr (.inr ⟨hs,g,old,cs,t,M',hg,hm,hp,hM',h _ _ _ hK⟩)
   · rename_i hw;simp only[hw]at hh;exact h _ _ _ hh
def gfree(md:Region.Mode)(ops:Array Oper)(listed:Array Bool)(i:Nat)(p:Bool):Bool:=
  match ops[i]? with
  |none=>false
  |some oi=>(List.range ops.size).all fun j=>j==i||listed.getD j true||match ops[j]? with
      |some oj=>(oi.apart ops oj&& (p||!storeB oj))||oj.after.any (fun e=>Region.binds md e&& e.on==i)||ancB md ops ops.size j i
      |none=>true
theorem wpAnyG_first {Q:Act→Bool→List (Nat × Obj)→Prop} {i:Nat} {oi:Oper} {v:Value} (hi:ops[i]?=some oi) (hsel: ∀(j:Nat)(o:Oper) cs b,ops[j]?=some o→o.op≠ .select cs b) (p:Bool)
  (hp:p=true→ ∀b b' a,YieldsG P ops S oi v b a→YieldsG P ops S oi v b' a):
  ∀ (fuel:Nat) (listed:Array Bool) (a:Act) (b:Bool) (M:List (Nat × Obj)),closedL md ops listed→
    (∀j oj,ops[j]?=some oj→j≠i→listed.getD j true=false→ancB md ops ops.size j i=true∨(oi.apart ops oj=true∧(p=true∨storeB oj=false)))→
    i∈Region.ready md ops listed→YieldsG P ops S oi v b a→
    wpAnyG P md ops S w0 Q fuel (listed.setIfInBounds i true) (a.put oi.dst v) b M→wpAnyG P md ops S w0 Q (fuel+1) listed a b M:=by
 intro fuel
 induction fuel with
 |zero=>
  intro listed a b M _ _ hr hy H
  refine⟨fun h=>(by rw[h]at hr;cases hr),fun j hj=>?_⟩
  by_cases hji:j=i
  · subst hji;exact hy.gOp hi H
  · have:=ready_mono hj hji
    rw[H.1]at this
    cases this
 | succ fuel ih=>
  intro listed a b M hcl hfree hr hy H
  refine⟨fun h=>(by rw[h]at hr;cases hr),fun j hj=>?_⟩
  by_cases hji:j=i
  · subst hji;exact hy.gOp hi H
  · have h1:=H.2 j (ready_mono hj hji)
    obtain⟨hjun,oj,hoj,hall⟩:=mem_ready.1 hj
    have h0:=(mem_ready.1 hr).1
    have hno: ¬ancB md ops ops.size j i=true:=fun ha=>by
      have hl:=anc_listed hcl (i:=i) ops.size j (fun o ho e he hb=>by
        have:o=oj:=Option.some.inj (ho.symm.trans hoj)
        subst this
        exact hall e he hb) ha
      rcases Nat.lt_or_ge i listed.size with h'|h'
      · simp[h']at h0 hl;rw[h0]at hl;cases hl
      · simp[Array.getElem?_eq_none h']at hl
    rcases hfree j oj hoj hji hjun with hf|⟨hap,hps⟩
    · exact absurd hf hno
    · have hst:storeB oj=true→YieldsG P ops S oi v false a:=fun hs=>by
        rcases hps with hp'|hn
        · exact hp hp' _ _ _ hy
        · rw[hn]at hs;cases hs
      have h2:=gOp_put hoj hap (fun cs b=>hsel i oi cs b hi) (fun cs b=>hsel j oj cs b hoj) hy hst h1
      have hfree': ∀k ok,ops[k]?=some ok→k≠i→(listed.setIfInBounds j true).getD k true=false→ancB md ops ops.size k i=true∨(oi.apart ops ok=true∧(p=true∨storeB ok=false)):=fun k ok hk hki hun=>by
        refine hfree k ok hk hki ?_
        by_cases hjk:j=k
        · subst hjk;exact hjun
        · rw[getD_set_ne true hjk]at hun;exact hun
      refine gOp_mono (fun a' b' M' h3=>ih (listed.setIfInBounds j true) a' b' M' (closedL_set hcl hj) hfree' (ready_mono hr (Ne.symm hji)) h3.1 ?_) h2
      rw[Array.setIfInBounds_comm _ _ hji]
      exact h3.2.2
def wpG0 (P:Program) (l:List Oper) (S:World→Prop) (Q:Act→Prop):List Nat→Act→Prop
  |[],a=>Q a
  | i::rest,a=>match l[i]? with
    |none=>False
    |some o=>if Region.wanted o (yielded l.toArray a.tmps)then∃v,(∀u,S u→GAt P o a v u)∧wpG0 P l S Q rest (a.put o.dst v)else wpG0 P l S Q rest (a.put o.dst undef)
structure wpG(P:Program)(l:List Oper)(S:World→Prop)(Q:Act→Prop)(ord:List Nat)(a:Act):Prop where
  out:wpG0 P l S Q ord a
def lexG(md:Region.Mode)(ops:Array Oper):List Nat→Array Bool→Bool
  |[],_=>true
  |i::rest,listed=>(Region.ready md ops listed).contains i&& gfree md ops listed i ((ops[i]?.map pureB).getD false) && lexG md ops rest (listed.setIfInBounds i true)
def listedBy:List Nat→Array Bool→Array Bool
  |[],l=>l
  |i::rest,l=>listedBy rest (l.setIfInBounds i true)
theorem gfree_spec{i:Nat}{oi:Oper}{listed:Array Bool}{p:Bool}(hi:ops[i]?=some oi)(h:gfree md ops listed i p=true)(j:Nat)(oj:Oper)(hj:ops[j]?=some oj)(hne:j≠i)(hun:listed.getD j true=false):
   ancB md ops ops.size j i=true∨(oi.apart ops oj=true∧(p=true∨storeB oj=false)):=by
 simp only[gfree,hi,List.all_eq_true,List.mem_range]at h
 have hsz:=(Array.getElem?_eq_some_iff.1 hj).1
 have h1:=h j hsz
 simp only[hj,Bool.or_eq_true,beq_iff_eq,hne,false_or,hun,Bool.false_eq_true,Bool.and_eq_true,Bool.not_eq_true']at h1
 rcases h1 with (h1|h1)|h1
 · exact .inr h1
 · left
   obtain⟨n,hn⟩: ∃n,ops.size=n+1:=⟨ops.size- 1,by omega⟩
   rw[hn]
   unfold ancB
   simp only[hj]
   obtain⟨e,he,hb⟩:=Array.any_eq_true'.1 h1
   simp only[Bool.and_eq_true,beq_iff_eq]at hb
   exact Array.any_eq_true'.2 ⟨e,he,by simp[hb.1,hb.2]⟩
 · exact .inl h1
theorem wpAnyG_lex{Q:Act→Bool→List (Nat × Obj)→Prop}{l:List Oper}(hs:Region.noSelect l.toArray=true){s0:World}(h0:S s0){M:List (Nat × Obj)}: ∀(ord:List Nat)(f:Nat)(listed:Array Bool)(a:Act),closedL md l.toArray listed→
  lexG md l.toArray ord listed=true→wpG0 P l S (fun a'=>wpAnyG P md l.toArray S w0 Q f (listedBy ord listed) a' true M) ord a→wpAnyG P md l.toArray S w0 Q (ord.length+f) listed a true M
 |[],f,listed,a,_,_,h=>by simpa [wpG0,listedBy] using h
 | i ::ord,f,listed,a,hcl,hB,h=>by
  simp only[lexG,Bool.and_eq_true]at hB
  obtain⟨⟨hr,hf⟩,hB'⟩:=hB
  have hr':i∈Region.ready md l.toArray listed:=by simpa using hr
  unfold wpG0 at h
  cases hl:l[i]? with
  |none=>simp only[hl]at h
  |some o=>
   simp only[hl]at h
   have ho:l.toArray[i]?=some o:=by simpa using hl
   have hpp:(l.toArray[i]?.map pureB).getD false=pureB o:=by rw[ho];rfl
   rw[hpp]at hf
   have hlen:(i::ord).length+f=(ord.length+f)+1:=by simp only[List.length_cons];omega
   rw[hlen]
   have hpy:pureB o=true→ ∀v b b' a,YieldsG P l.toArray S o v b a→YieldsG P l.toArray S o v b' a:=fun hpu v b b' a hy=>by
     rcases hy with ⟨hw,hv⟩|hy
     · refine .inl ⟨hw, .inr ?_⟩
       rcases hv with ⟨_,hv⟩|hv
       · exact fun u=>pure_any hpu (hv s0 h0) u
       · exact hv
     · exact .inr hy
   by_cases hw:Region.wanted o (yielded l.toArray a.tmps)=true
   · simp only[hw,if_true]at h
     obtain⟨v,hv,hK⟩:=h
     exact wpAnyG_first ho (Region.noSelect_spec hs) (pureB o) (fun hpu=>hpy hpu v) _ listed a true M hcl (gfree_spec ho hf) hr' (.inl ⟨hw, .inl ⟨rfl,hv⟩⟩)
       (wpAnyG_lex hs h0 ord f _ _ (closedL_set hcl hr') hB' hK)
   · simp only[hw,Bool.false_eq_true,if_false]at h
     exact wpAnyG_first ho (Region.noSelect_spec hs) (pureB o) (fun hpu=>hpy hpu undef) _ listed a true M hcl (gfree_spec ho hf) hr' (.inr ⟨by simpa using hw,rfl⟩)
       (wpAnyG_lex hs h0 ord f _ _ (closedL_set hcl hr') hB' h)
theorem wp_region_G{id:Nat}{Q:Exit→Act→World→Prop}{a:Act}{w:World}{l:List Oper}(ord:List Nat)(L:List (Nat × Obj))(f:Nat)(hm:P.follows .mixedOrders=true)
  (hB:(Region.noSelect l.toArray&& lexG .any l.toArray ord (Array.replicate l.toArray.size false))=true) (hf:l.toArray.size=ord.length+f) (hE:EnvX w0 w L)
  (h:wpG P l (EnvC w0 L) (fun a'=>wpAnyG P .any l.toArray (EnvC w0 L) w0 (fun a b M=> ∀u,GT (EnvC w0 L) w0 b M u→Q .normal a u) f (listedBy ord (Array.replicate l.toArray.size false)) a' true L) ord a):
  (Code.region id l.toArray true).wp P Q a w:=by
 simp only[Bool.and_eq_true]at hB
 have hcl:closedL .any l.toArray (Array.replicate l.toArray.size false):=fun j oj _ hl=>by
  rw[getD_replicate_false]at hl
  cases hl
 refine wp_region_any hm (wpAny_of_G (S:=EnvC w0 L) (w0:=w0) (fun u v hu hb=>EnvX.below hu hb) (Q:=fun a b M=> ∀u,GT (EnvC w0 L) w0 b M u→Q .normal a u) (fun a b M u hu hh=>hh u hu) _ _ _ true L _ ⟨fun _=>hE.drew,hE.drew⟩ ?_)
 have h2:=wpAnyG_lex (w0:=w0) hB.1 (s0:=w.drew) (S:=EnvC w0 L) hE.drew ord f _ a hcl hB.2 h.out
 rw[←hf]at h2
 exact h2
def wpLex(P:Program)(ops:Array Oper)(S:World→Prop)(w0:World)(Q:Act→Bool→List (Nat × Obj)→Prop):List Nat→Act→Bool→List (Nat × Obj)→Prop
  |[],a,b,M=>Q a b M
  |i::rest,a,b,M=>gOp P ops S w0 i (wpLex P ops S w0 Q rest) a b M
theorem wpOps_of_lex(hS: ∀u v,S u→Below u.heap.size u v→S v){Q:Act→Bool→List (Nat × Obj)→Prop}{Q':Exit→Act→World→Prop}(hQ: ∀a b M u,GT S w0 b M u→Q a b M→Q' .normal a u):
  ∀(l:List Nat)(a:Act)(b:Bool)(M:List (Nat × Obj))(u:World),GT S w0 b M u→wpLex P ops S w0 Q l a b M→wpOps P ops Q' l a u
 |[],_,_,_,_,hu,h=>hQ _ _ _ _ hu h
 |i::l,_,_,_,_,hu,h=>by
  rw[wpOps_cons]
  exact wpOp_of_gOp hS hu (fun a' b' M' u' hu'=>wpOps_of_lex hS hQ l a' b' M' u' hu') h
theorem wpLex_of_G{l:List Oper}{Q:Act→Bool→List (Nat × Obj)→Prop}{M:List (Nat × Obj)}(rest:List Nat): ∀(ord:List Nat)(a:Act),wpG0 P l S (fun a'=>wpLex P l.toArray S w0 Q rest a' true M) ord a→wpLex P l.toArray S w0 Q (ord++rest) a true M
 |[],a,h=>h
 | i ::ord,a,h=>by
  unfold wpG0 at h
  show gOp P l.toArray S w0 i (wpLex P l.toArray S w0 Q (ord++rest)) a true M
  unfold gOp
  cases hl:l[i]? with
  |none=>simp only[hl]at h
  |some o=>
   simp only[hl]at h
   have ho:l.toArray[i]?=some o:=by simpa using hl
   simp only[ho]
   split
   · rename_i hw
     simp only[hw,if_true]at h
     obtain⟨v,hv,hK⟩:=h
     exact .inl ⟨v, .inl ⟨by trivial,hv⟩,wpLex_of_G rest ord _ hK⟩
   · rename_i hw
     simp only[hw]at h
     exact wpLex_of_G rest ord _ h
theorem wp_region_Gx{id:Nat}{Q:Exit→Act→World→Prop}{a:Act}{w:World}{l:List Oper}(ord rest:List Nat)(L:List (Nat × Obj))(hr:List.range l.toArray.size=ord++rest)(hE:EnvX w0 w L)
  (h:wpG P l (EnvC w0 L) (fun a'=>wpLex P l.toArray (EnvC w0 L) w0 (fun a b M=> ∀u,GT (EnvC w0 L) w0 b M u→Q .normal a u) rest a' true L) ord a):
  (Code.region id l.toArray false).wp P Q a w:=by
 refine wp_region ?_
 rw[hr]
 exact wpOps_of_lex (S:=EnvC w0 L) (w0:=w0) (fun u v hu hb=>EnvX.below hu hb) (Q:=fun a b M=> ∀u,GT (EnvC w0 L) w0 b M u→Q .normal a u) (fun a b M u hu hh=>hh u hu) _ a true L w ⟨fun _=>hE,hE⟩ (wpLex_of_G rest ord a h.out)
theorem run_enter{f:FuncId}{fn:Func}{c:Code}(hf:P.funcs[f]?=some fn)(hname:(fn.name== "runtime.NumGoroutine")=false)(hb:fn.body=some c)(args:Array Value)(w:World):
  (callFunc f args).run P w= .ok (.enter f args) w:=by
 have h1:fn.name≠ "runtime.NumGoroutine" :=by simpa using hname
 simp[callFunc,hf,h1,hb]
section
variable {l:List Oper}{C:World→Prop}{Q:Act→Prop}{a:Act}{i:Nat}{rest:List Nat}{dst:Option Tmp}{op:Op}{ty:TypeId}{pos:String}{after:Array Edge}{gd:Option (Nat × Bool)}
theorem wpG_nil(h:Q a):wpG P l C Q [] a:=⟨h⟩
theorem wpG_skip(ho:l[i]?=some ⟨dst,op,ty,pos,after,gd⟩)(hw:Region.wanted ⟨dst,op,ty,pos,after,gd⟩ (yielded l.toArray a.tmps)=false)
  (h: ∀K:Act→Prop,(∀a,wpG P l C Q rest a→K a)→Oper.quiet P ⟨dst, .move (.const undef),ty,pos,after,gd⟩ a C K) {u0:World} (h0:C u0):wpG P l C Q (i::rest) a:=by
 refine⟨?_⟩
 unfold wpG0
 simp only[ho]
 rw[if_neg (by rw[hw];exact Bool.false_ne_true)]
 obtain⟨v,hv,hK⟩:=h (wpG0 P l C Q rest) (fun _ h=>h.out)
 have h1:=hv u0 h0
 have e:v=undef:=by
  unfold Oper.quietAt execOp at h1
  exact h1.2.symm
 rw[e]at hK
 exact hK
theorem quietAt_GAt{o:Oper}{v:Value}{u:World}(h: ∀f args u',(execOp a.eval o).run P u≠ .ok (.enter f args) u')(hq:Oper.quietAt P o a C u v):GAt P o a v u:=by
 unfold Oper.quietAt at hq
 unfold GAt
 generalize (execOp a.eval o).run P u=r at *
 cases r with
 |ok n w'=>
  cases n<;>simp only[Oper.quietUpon]at hq<;>simp only[GUpon]
  case value x=>exact hq
  case skip=>exact hq
  case enter f args=>exact absurd rfl (h f args w')
 |halt x w'=>simp only[Oper.quietUpon]at hq
def valueB(op:Op):Bool:=match op with| .move _| .assign _| .pick _ _ _| .build _ _| .load _ _| .binOp _ _ _ _ _| .unOp _ _ _| .convert _ _ _| .indexAddr _ _ _| .fieldAddr _ _ _| .field _ _ _| .index _ _ _| .extract _ _=>true|_=>false
theorem value_stays{α:Type}(s:Sem α)(g:α→Value)(u:World)(f:FuncId)(args:Array Value)(u':World):(s>>=fun x=>(pure (Next.value (g x)):Sem Next)).run P u≠ .ok (.enter f args) u':=by
 rw[Sem.run_bind]
 cases s.run P u with
 |ok x w=>intro h;simp[Result.andThen]at h
 |halt x w=>intro h;simp[Result.andThen]at h
theorem value_noEnter(hv:valueB op=true)(u:World)(f:FuncId)(args:Array Value)(u':World):(execOp a.eval ⟨dst,op,ty,pos,after,gd⟩).run P u≠ .ok (.enter f args) u':=by
 unfold valueB at hv
 cases op<;>first|(cases hv;done)|(unfold execOp;exact value_stays _ id u f args u')|(unfold execOp;intro h;simp at h;done)|skip
 case pick c x y=>exact value_stays (asBool (a.eval c)) (fun b=>if b then a.eval x else a.eval y) u f args u'
theorem wpG_op(ho:l[i]?=some ⟨dst,op,ty,pos,after,gd⟩)(hw:Region.wanted ⟨dst,op,ty,pos,after,gd⟩ (yielded l.toArray a.tmps)=true)(hv:valueB op=true)
  (h: ∀K:Act→Prop,(∀a,wpG P l C Q rest a→K a)→Oper.quiet P ⟨dst,op,ty,pos,after,gd⟩ a C K):wpG P l C Q (i::rest) a:=by
 refine⟨?_⟩
 unfold wpG0
 simp only[ho]
 rw[if_pos hw]
 obtain⟨v,hq,hK⟩:=h (wpG0 P l C Q rest) (fun _ h=>h.out)
 exact⟨v,fun u hu=>quietAt_GAt (value_noEnter hv u) (hq u hu),hK⟩
theorem wpG_val{v:Value}(ho:l[i]?=some ⟨dst,op,ty,pos,after,gd⟩)(hw:Region.wanted ⟨dst,op,ty,pos,after,gd⟩ (yielded l.toArray a.tmps)=true)
  (hv: ∀u,C u→(execOp a.eval ⟨dst,op,ty,pos,after,gd⟩).run P u= .ok (.value v) u)
  (h: ∀K:Act→Prop,(∀a,wpG P l C Q rest a→K a)→Oper.quiet P ⟨dst, .move (.const v),ty,pos,after,gd⟩ a C K) {u0:World} (h0:C u0):wpG P l C Q (i::rest) a:=by
 refine⟨?_⟩
 unfold wpG0
 simp only[ho]
 rw[if_pos hw]
 obtain⟨v',hq,hK⟩:=h (wpG0 P l C Q rest) (fun _ h=>h.out)
 have e:v'=v:=by
  have h1:=hq u0 h0
  unfold Oper.quietAt execOp at h1
  exact h1.2.symm
 rw[e]at hK
 exact⟨v,fun u hu=>by unfold GAt;rw[hv u hu];exact⟨rfl,rfl⟩,hK⟩
theorem wpG_load{ty':TypeId}{x:Operand}(ho:l[i]?=some ⟨dst, .load ty' x,ty,pos,after,gd⟩)(hw:Region.wanted ⟨dst, .load ty' x,ty,pos,after,gd⟩ (yielded l.toArray a.tmps)=true)
  (g:Nat) (hx:a.eval x= .pointer (some ⟨g,0,none⟩)) (t:TypeId) (cs:Array Value) (d:TypeDesc) (hC: ∀u,C u→u.heap[g]?=some (.cells cs t (0,0)))
  (hu:P.underlying ty'=some d) (hd:(match d with| .struct _| .array _ _=>true|_=>false)=true) (hi:(P.info? ty').map (·.size)=some cs.size)
  (h: ∀K:Act→Prop,(∀a,wpG P l C Q rest a→K a)→Oper.quiet P ⟨dst, .move (.const (.agg cs)),ty,pos,after,gd⟩ a C K) {u0:World} (h0:C u0):wpG P l C Q (i::rest) a:=
 wpG_val ho hw (fun u hu'=>by
  unfold execOp
  simp only[hx,Instr.loadAt,Instr.sureAddr,Sem.run_bind,Sem.run_pure,Result.andThen_ok,run_loadVar_row u g t ty' cs (0,0) d (hC u hu') hu hd hi]) h h0
theorem wpG_call{f:FuncId}{xs:Array Operand}{ats:Array TypeId}{fn:Func}{c:Code}{v:Value}{args:Array Value}(ho:l[i]?=some ⟨dst, .call {callee:= .value (.func f),args:=xs,argTypes:=ats},ty,pos,after,gd⟩)
  (hw:Region.wanted ⟨dst, .call {callee:= .value (.func f),args:=xs,argTypes:=ats},ty,pos,after,gd⟩ (yielded l.toArray a.tmps)=true)
  (hargs:xs.toList.map a.eval=args.toList) (hfn:P.funcs[f]?=some fn) (hname:(fn.name== "runtime.NumGoroutine")=false) (hb:fn.body=some c)
  (hcall: ∀u,C u→Calls P f args u (fun e w''=>e= .returned v∧Below u.heap.size u w''))
  (h: ∀K:Act→Prop,(∀a,wpG P l C Q rest a→K a)→Oper.quiet P ⟨dst, .move (.const v),ty,pos,after,gd⟩ a C K) {u0:World} (h0:C u0):wpG P l C Q (i::rest) a:=by
 refine⟨?_⟩
 unfold wpG0
 simp only[ho]
 rw[if_pos hw]
 obtain⟨v',hv,hK⟩:=h (wpG0 P l C Q rest) (fun _ h=>h.out)
 have e:v'=v:=by
  have h1:=hv u0 h0
  unfold Oper.quietAt execOp at h1
  exact h1.2.symm
 rw[e]at hK
 refine⟨v,fun u hu=>?_,hK⟩
 have hrun:(execOp a.eval ⟨dst, .call {callee:= .value (.func f),args:=xs,argTypes:=ats},ty,pos,after,gd⟩).run P u= .ok (.enter f args) u:=by
  have ha:xs.map a.eval=args:=by
   apply Array.ext'
   rw[Array.toList_map]
   exact hargs
  rw[execOp_call_go]
  simp only[Array.empty_append,Array.append_empty,ha]
  exact run_enter hfn hname hb _ u
 unfold GAt
 rw[hrun]
 exact⟨rfl,hcall u hu⟩
end
section
variable {Q:Act→Bool→List (Nat × Obj)→Prop}{f:Nat}{listed:Array Bool}{a:Act}{b:Bool}{M:List (Nat × Obj)}
theorem anyG_done(hr:Region.ready md ops listed=[])(h:Q a b M):wpAnyG P md ops S w0 Q 0 listed a b M:=⟨hr,h⟩
theorem gOp_new{i:Nat}{K:Act→Bool→List (Nat × Obj)→Prop}{dst:Option Tmp}{op:Op}{ty:TypeId}{pos:String}{after:Array Edge}(z:Obj)(ho:ops[i]?=some ⟨dst,op,ty,pos,after,none⟩)(hz:NewAt P ⟨dst,op,ty,pos,after,none⟩ a z)
  (h: ∀g,w0.heap.size≤g→(∀x∈M,x.1≠g)→ ∀K':Act→Prop,(∀a',K a' b ((g,z)::M)→K' a')→Oper.quiet P ⟨dst, .move (.const (.pointer (some ⟨g,0,none⟩))),ty,pos,after,none⟩ a (fun _=>True) K'):gOp P ops S w0 i K a b M:=by
 unfold gOp
 simp only[ho,Region.wanted,if_true]
 refine .inr (.inl ⟨z,hz,fun g hg hf=>?_⟩)
 obtain⟨v,hv,hK⟩:=h g hg hf (fun a'=>K a' b ((g,z)::M)) (fun _ h=>h)
 have e:v= .pointer (some ⟨g,0,none⟩):=by
  have h1:=hv w0 trivial
  unfold Oper.quietAt execOp at h1
  exact h1.2.symm
 rw[e]at hK
 exact hK
theorem gOp_pure{i:Nat}{K:Act→Bool→List (Nat × Obj)→Prop}{dst:Option Tmp}{op:Op}{ty:TypeId}{pos:String}{after:Array Edge}(ho:ops[i]?=some ⟨dst,op,ty,pos,after,none⟩)(hop:valueB op=true)
  (h: ∀K':Act→Prop,(∀a',K a' b M→K' a')→Oper.quiet P ⟨dst,op,ty,pos,after,none⟩ a (fun _=>True) K'):gOp P ops S w0 i K a b M:=by
 unfold gOp
 simp only[ho,Region.wanted,if_true]
 obtain⟨v,hv,hK⟩:=h (fun a'=>K a' b M) (fun _ h=>h)
 exact .inl ⟨v, .inr (fun u=>quietAt_GAt (value_noEnter hop u) (hv u trivial)),hK⟩
theorem gOp_store{i:Nat}{K:Act→Bool→List (Nat × Obj)→Prop}{ty ty':TypeId}{pos:String}{after:Array Edge}{x y:Operand}(ho:ops[i]?=some ⟨none, .store ty' x y,ty,pos,after,none⟩)
  (g:Nat) (cs:Array Value) (hx:a.eval x= .pointer (some ⟨g,0,none⟩)) (hy:a.eval y= .agg cs) (hg:w0.heap.size≤g) (t:TypeId) (old:Array Value) (hm:(g,Obj.cells old t (0,0))∈M)
  (hi:(P.info? ty').map (·.size)=some cs.size) (hold:old.size=cs.size) (h1:cs.all (·.oneCell')=true) (M':List (Nat × Obj)) (hM': ∀x∈M',x=(g,Obj.cells cs t (0,0))∨(x∈M∧x.1≠g))
  (h:K a false M'):gOp P ops S w0 i K a b M:=by
 unfold gOp
 simp only[ho,Region.wanted,if_true]
 refine .inr (.inr ⟨rfl,g,old,cs,t,M',hg,hm,fun u hu=>?_,hM',h⟩)
 unfold execOp
 simp only[hx,hy,Instr.storeAt,Instr.sureAddr,Sem.run_bind,Sem.run_pure,Result.andThen_ok,run_storeVar_row u g t ty' old cs hu hi hold h1]
theorem put_told{dst:Option Tmp}{v:Value}{ty:TypeId}{pos:String}{after:Array Edge}{K:Act→Prop}(w0:World)
  (h: ∀K':Act→Prop,(∀a',K a'→K' a')→Oper.quiet P ⟨dst, .move (.const v),ty,pos,after,none⟩ a (fun _=>True) K'):K (a.put dst v):=by
 obtain⟨v',hv,hK⟩:=h K (fun _ h=>h)
 have e:v'=v:=by
  have h1:=hv w0 trivial
  unfold Oper.quietAt execOp at h1
  exact h1.2.symm
 rw[e]at hK
 exact hK
end
end
section
variable {P:Program}{ops:Array Oper}{md:Region.Mode}{w0:World}
abbrev Boxes:=List (Nat × Obj)
def FUpon(P:Program)(u:World)(R:Value→Boxes→Prop):Result Next→Prop
  | .ok (.value x) u'=>Below u.heap.size u u'∧ ∃N,R x N∧ ∀y∈N,u.heap.size≤y.1∧u'.heap[y.1]?=some y.2
  | .ok (.enter f args) u'=>u'=u∧Calls P f args u (fun e w''=> ∃x N,e= .returned x∧R x N∧Below u.heap.size u w''∧ ∀y∈N,u.heap.size≤y.1∧w''.heap[y.1]?=some y.2)
  |_=>False
def OUpon(P:Program)(w0:World)(R:Value→Boxes→Prop):Result Next→Prop
  | .ok (.value x) u'=> ∃M',EnvX w0 u' M'∧R x M'
  | .ok .skip u'=> ∃M',EnvX w0 u' M'∧R undef M'
  | .ok (.enter f args) u'=>Calls P f args u' (fun e w''=> ∃x M',e= .returned x∧EnvX w0 w'' M'∧R x M')
  |_=>False
def FAt(P:Program)(o:Oper)(a:Act)(R:Value→Boxes→Prop)(u:World):Prop:=FUpon P u R ((execOp a.eval o).run P u)
def freshN(w0:World)(N M:Boxes):Prop:= ∀y∈N,w0.heap.size≤y.1∧ ∀z∈M,z.1≠y.1
def PUpon(P:Program)(u:World)(E:List PanicEntry→World→Prop):Result Next→Prop
  | .ok (.enter f args) u'=>u'=u∧Calls P f args u (fun e w''=> ∃c,e= .panicked c∧E c w'')
  | .halt (.panic v) u'=>E [{v,recovered:=false}] u'
  |_=>False
structure HP where
  post:List PanicEntry→World→Prop
  keep:Nat→Boxes
def HP.no:HP:=⟨fun _ _=>False,fun _=>[]⟩
theorem no_keep{i:Nat}{M M':Boxes}: ∀x∈HP.no.keep i,x∈M→x∈M':=fun x h=>absurd (show x∈([]:Boxes)from h) List.not_mem_nil
theorem no_keepR{i:Nat}{M:Boxes}{R:Value→Boxes→Prop}: ∀x M',R x M'→ ∀y∈HP.no.keep i,y∈M→y∈M':=fun _ _ _ x h=>absurd (show x∈([]:Boxes)from h) List.not_mem_nil
def hOp {Γ:HP} (P:Program) (ops:Array Oper) (w0:World) (i:Nat) (K:Act→Boxes→Prop) (a:Act) (M:Boxes):Prop:=
  match ops[i]? with
  |none=>K a M
  | some o=>if Region.wanted o (yielded ops a.tmps)then
      ((∃v M0,(∀x∈M0,x∈M)∧(∀u,EnvX w0 u M0→GAt P o a v u)∧K (a.put o.dst v) M)∨
       (∃R M0,(∀x∈M0,x∈M)∧(∀u,EnvX w0 u M0→FAt P o a R u)∧ ∀x N,R x N→freshN w0 N M→(∃u,EnvX w0 u (N++M))→K (a.put o.dst x) (N++M))∨
       (storeB o=true∧ ∃g old cs t M',w0.heap.size≤g∧(g,Obj.cells old t (0,0))∈M∧PutAt P o a g old cs t∧(∀x∈M',x=(g,Obj.cells cs t (0,0))∨(x∈M∧x.1≠g))∧(∀x∈Γ.keep i,x∈M→x∈M')∧((∃u,EnvX w0 u M')→K (a.put o.dst undef) M'))∨
       (storeB o=true∧ ∃R:Value→Boxes→Prop,(∀u,EnvX w0 u M→OUpon P w0 R ((execOp a.eval o).run P u))∧(∀x M',R x M'→ ∀y∈Γ.keep i,y∈M→y∈M')∧ ∀x M',R x M'→(∃u,EnvX w0 u M')→K (a.put o.dst x) M')∨
       (∃M0,(∀x∈M0,x∈M)∧ ∀u,EnvX w0 u M0→PUpon P u Γ.post ((execOp a.eval o).run P u)))
    else K (a.put o.dst undef) M
def anyH{Γ:HP}(P:Program)(md:Region.Mode)(ops:Array Oper)(w0:World)(Q:Act→Boxes→Prop):Nat→Array Bool→Act→Boxes→Prop
  |0,listed,a,M=>Region.ready md ops listed=[]∧Q a M
  |f+1,listed,a,M=>(Region.ready md ops listed=[]→Q a M)∧ ∀i∈Region.ready md ops listed,hOp (Γ:=Γ) P ops w0 i (anyH (Γ:=Γ) P md ops w0 Q f (listed.setIfInBounds i true)) a M
variable {Γ:HP}
theorem EnvX.app{w u v:World}{l N:Boxes}(h:EnvX w u l)(hb:Below u.heap.size u v)(hN: ∀y∈N,u.heap.size≤y.1∧v.heap[y.1]?=some y.2):EnvX w v (N++l):=by
 have h1:=h.below hb
 refine⟨h1.bel,fun g o hm=>?_⟩
 rcases List.mem_append.1 hm with e|e
 · exact(hN _ e).2
 · exact h1.box g o e
theorem freshN_of{w u:World}{l N:Boxes}(h:EnvX w u l)(hN: ∀y∈N,u.heap.size≤y.1):freshN w N l:=fun y hy=>
 ⟨Nat.le_trans h.bel.size (hN y hy),fun z hz e=>by
  have h1:=h.lt (g:=z.1) (o:=z.2) hz
  have h2:=hN y hy
  omega⟩
theorem wpOp_of_hOp {i:Nat} {a:Act} {M:Boxes} {K:Act→Boxes→Prop} {K':Act→World→Prop} {Q':Exit→Act→World→Prop} {u:World}
   (hu:EnvX w0 u M) (Z:Act→Prop) (hz:Z a) (hZ: ∀o,ops[i]?=some o→ ∀v,Z (a.put o.dst v)) (hP: ∀c u,Γ.post c u→Q' (.panic c) a u) (h: ∀a M u,Z a→EnvX w0 u M→K a M→K' a u) (hh:hOp (Γ:=Γ) P ops w0 i K a M):wpOp P ops Q' i K' a u:=by
 unfold hOp at hh
 unfold wpOp
 split
 · rename_i ho;simp only[ho]at hh;exact h _ _ _ hz hu hh
 · rename_i o ho
   simp only[ho]at hh
   split
   · rename_i hw
     simp only[hw,if_true]at hh
     refine .inl ?_
     rcases hh with ⟨v,M0,hM0,hv,hK⟩|⟨R,M0,hM0,hv,hK⟩|⟨_,g,old,cs,t,M',hg,hm,hp,hM',_,hK⟩|⟨_,R,hv,_,hK⟩|⟨M0,hM0,hv⟩
     · have h3:=hv u (hu.sub hM0)
       unfold GAt at h3
       unfold Oper.wp
       generalize (execOp a.eval o).run P u=r at *
       cases r with
       | ok n w'=>
        cases n<;>simp only[GUpon]at h3<;>simp only[Oper.upon]
        case value x=>
         obtain⟨e1,e2⟩:=h3
         rw[e1,e2]
         exact h _ _ _ (hZ o ho _) hu hK
        case skip=>
         obtain⟨e1,e2⟩:=h3
         rw[e1,←e2]
         exact h _ _ _ (hZ o ho _) hu hK
        case enter f args=>
         obtain⟨e1,hc⟩:=h3
         rw[e1]
         exact hc.mono fun e w''⟨he,hb⟩=>by subst he;exact h _ _ _ (hZ o ho _) (hu.below hb) hK
       |halt x w'=>simp only[GUpon]at h3
     · have h3:=hv u (hu.sub hM0)
       unfold FAt at h3
       unfold Oper.wp
       generalize (execOp a.eval o).run P u=r at *
       cases r with
       | ok n w'=>
        cases n<;>simp only[FUpon]at h3<;>simp only[Oper.upon]
        case value x=>
         obtain⟨hb,N,hR,hN⟩:=h3
         have hE:=hu.app hb hN
         exact h _ _ _ (hZ o ho _) hE (hK x N hR (freshN_of hu (fun y hy=>(hN y hy).1)) ⟨_,hE⟩)
        case enter f args=>
         obtain⟨e1,hc⟩:=h3
         rw[e1]
         exact hc.mono fun e w''⟨x,N,he,hR,hb,hN⟩=>by
          subst he
          have hE:=hu.app hb hN
          exact h _ _ _ (hZ o ho _) hE (hK x N hR (freshN_of hu (fun y hy=>(hN y hy).1)) ⟨_,hE⟩)
       |halt x w'=>simp only[FUpon]at h3
     · unfold Oper.wp
       rw[hp u (hu.box g _ hm)]
       simp only[Oper.upon]
       have hE:=hu.put hg hm hM'
       exact h _ _ _ (hZ o ho _) hE (hK ⟨_,hE⟩)
     · have h3:=hv u hu
       unfold Oper.wp
       generalize (execOp a.eval o).run P u=r at *
       cases r with
       | ok n w'=>
        cases n<;>simp only[OUpon]at h3<;>simp only[Oper.upon]
        case value x=>
         obtain⟨M',hE,hR⟩:=h3
         exact h _ _ _ (hZ o ho _) hE (hK x M' hR ⟨_,hE⟩)
        case skip=>
         obtain⟨M',hE,hR⟩:=h3
         exact h _ _ _ (hZ o ho _) hE (hK undef M' hR ⟨_,hE⟩)
        case enter f args=>
         exact h3.mono fun e w''⟨x,M',he,hE,hR⟩=>by
          subst he
          exact h _ _ _ (hZ o ho _) hE (hK x M' hR ⟨_,hE⟩)
       |halt x w'=>simp only[OUpon]at h3
     · have h3:=hv u (hu.sub hM0)
       unfold Oper.wp
       generalize (execOp a.eval o).run P u=r at *
       cases r with
       | ok n w'=>
        cases n<;>simp only[PUpon]at h3<;>simp only[Oper.upon]
        case enter f args=>
         obtain⟨e1,hc⟩:=h3
         rw[e1]
         exact hc.mono fun e w''⟨c,he,hE⟩=>by
          subst he
          exact hP _ _ hE
       |halt x w'=>
        cases x<;>simp only[PUpon]at h3<;>simp only[Oper.upon]
        case panic v=>exact hP _ _ h3
   · rename_i hw;simp only[hw]at hh;exact h _ _ _ (hZ o ho _) hu hh
def AlikeA(ops:Array Oper)(a a':Act):Prop:=a'.defers=a.defers∧ ∀t,(ops.all fun o=>o.dst !=some t)=true→a'.tmps[t]?=a.tmps[t]?
theorem AlikeA.refl(a:Act):AlikeA ops a a:=⟨rfl,fun _ _=>rfl⟩
theorem AlikeA.put{a a':Act}(h:AlikeA ops a a'){i:Nat}{o:Oper}(ho:ops[i]?=some o)(v:Value):AlikeA ops a (a'.put o.dst v):=by
 refine⟨?_,fun t ht=>?_⟩
 · rw[←h.1]
   cases o.dst<;>rfl
 · rw[←h.2 t ht]
   have h1:=Array.all_eq_true_iff_forall_mem.1 ht o (Array.mem_of_getElem? ho)
   cases hd:o.dst with
   |none=>rfl
   |some d=>
    rw[hd]at h1
    have hne:d≠t:=fun e=>by subst e;simp at h1
    simp[Act.put,Array.getElem?_setIfInBounds_ne hne]
theorem wpAny_of_HP{Q:Act→Boxes→Prop}{Q':Exit→Act→World→Prop}{a0:Act}(hP: ∀a,AlikeA ops a0 a→ ∀c u,Γ.post c u→Q' (.panic c) a u)(hQ: ∀a M u,EnvX w0 u M→Q a M→Q' .normal a u):
  ∀(f:Nat)(listed:Array Bool)(a:Act)(M:Boxes)(u:World),AlikeA ops a0 a→EnvX w0 u M→anyH (Γ:=Γ) P md ops w0 Q f listed a M→wpAny P md ops Q' f listed a u
 |0,_,_,_,_,_,hu,h=>⟨h.1,hQ _ _ _ hu h.2⟩
 |f+1,_,_,_,_,hz,hu,h=>⟨fun h0=>hQ _ _ _ hu (h.1 h0),fun i hi=>wpOp_of_hOp hu (AlikeA ops a0) hz (fun _ ho v=>hz.put ho v) (hP _ hz) (fun a' M' u' hz' hu'=>wpAny_of_HP hP hQ f _ a' M' u' hz' hu') (h.2 i hi)⟩
theorem wpAny_of_H{Q:Act→Boxes→Prop}{Q':Exit→Act→World→Prop}(hQ: ∀a M u,EnvX w0 u M→Q a M→Q' .normal a u)
  (f:Nat) (listed:Array Bool) (a:Act) (M:Boxes) (u:World) (hu:EnvX w0 u M) (h:anyH (Γ:=HP.no) P md ops w0 Q f listed a M):wpAny P md ops Q' f listed a u:=
 wpAny_of_HP (Γ:=HP.no) (fun _ _ _ _ h=>False.elim h) hQ f listed a M u (AlikeA.refl a) hu h
def YieldsH(P:Program)(ops:Array Oper)(w0:World)(M0:Boxes)(o:Oper)(v:Value)(a:Act):Prop:=
  (Region.wanted o (yielded ops a.tmps)=true∧ ∀u,EnvX w0 u M0→GAt P o a v u)∨
  (Region.wanted o (yielded ops a.tmps)=false∧v=undef)
theorem YieldsH.hOp{i:Nat}{o:Oper}{v:Value}{a:Act}{M0 M:Boxes}(hi:ops[i]?=some o)(hM: ∀x∈M0,x∈M)(hy:YieldsH P ops w0 M0 o v a){K:Act→Boxes→Prop}(h:K (a.put o.dst v) M):hOp (Γ:=Γ) P ops w0 i K a M:=by
 unfold Go.Proofs.YtojmeodoenkapaaGreatDoor.hOp
 simp only[hi]
 rcases hy with ⟨hw,hv⟩|⟨hw,rfl⟩
 · simp only[hw,if_true];exact .inl ⟨v,M0,hM,hv,h⟩
 · simp only[hw,Bool.false_eq_true,if_false];exact h
theorem YieldsH.of_same{o:Oper}{v:Value}{a a':Act}{M0:Boxes}(hy:YieldsH P ops w0 M0 o v a)(he:execOp a'.eval o=execOp a.eval o)
  (hw:Region.wanted o (yielded ops a'.tmps)=Region.wanted o (yielded ops a.tmps)):YieldsH P ops w0 M0 o v a':=by
 unfold YieldsH GAt at *
 rw[he,hw]
 exact hy
theorem hOp_mono{i:Nat}{a:Act}{M:Boxes}{K K':Act→Boxes→Prop}(h: ∀a M,K a M→K' a M)(hh:hOp (Γ:=Γ) P ops w0 i K a M):hOp (Γ:=Γ) P ops w0 i K' a M:=by
 unfold hOp at *
 split
 · exact h _ _ (by simpa [*] using hh)
 · rename_i o ho
   simp only[ho]at hh
   split
   · rename_i hw
     simp only[hw,if_true]at hh
     rcases hh with ⟨v,M0,hM0,hv,hK⟩|⟨R,M0,hM0,hv,hK⟩|⟨hs,g,old,cs,t,M',hg,hm,hp,hM',hk,hK⟩|⟨hs,R,hv,hk,hK⟩|h5
     · exact .inl ⟨v,M0,hM0,hv,h _ _ hK⟩
     · exact .inr (.inl ⟨R,M0,hM0,hv,fun x N hR hf hE=>h _ _ (hK x N hR hf hE)⟩)
     · exact .inr (.inr (.inl ⟨hs,g,old,cs,t,M',hg,hm,hp,hM',hk,fun hE=>h _ _ (hK hE)⟩))
     · exact .inr (.inr (.inr (.inl ⟨hs,R,hv,hk,fun x M' hR hE=>h _ _ (hK x M' hR hE)⟩)))
     · exact .inr (.inr (.inr (.inr h5)))
   · rename_i hw;simp only[hw]at hh;exact h _ _ hh
theorem hOp_put{j:Nat}{oi oj:Oper}{v:Value}{M0 M:Boxes}(hj:ops[j]?=some oj)(hap:oi.apart ops oj=true)
   (hsi: ∀cs b,oi.op≠ .select cs b) (hsj: ∀cs b,oj.op≠ .select cs b) {K:Act→Boxes→Prop} {a:Act}
   (hy:YieldsH P ops w0 M0 oi v a) (hM: ∀x∈M0,x∈M) (hst:storeB oj=true→ ∀x∈M0,x∈Γ.keep j) (h:hOp (Γ:=Γ) P ops w0 j K (a.put oi.dst v) M):
   hOp (Γ:=Γ) P ops w0 j (fun a' M'=>YieldsH P ops w0 M0 oi v a'∧(∀x∈M0,x∈M')∧K (a'.put oi.dst v) M') a M:=by
 obtain⟨h1,h2,h3⟩:=Oper.apart_spec hap
 have keep: ∀(a:Act),YieldsH P ops w0 M0 oi v a→ ∀u,YieldsH P ops w0 M0 oi v (a.put oj.dst u):=fun a hy u=>
   hy.of_same (execOp_put oi hsi a oj.dst u h3) (wanted_put oi a oj.dst u h3)
 have hex:=execOp_put (ops:=ops) oj hsj a oi.dst v h1
 unfold hOp at *
 simp only[hj]at *
 rw[wanted_put oj a oi.dst v h1]at h
 split
 · rename_i hw
   simp only[hw,if_true]at h
   rcases h with ⟨x,M1,hM1,hx,hK⟩|⟨R,M1,hM1,hx,hK⟩|⟨hs,g,old,cs,t,M',hg,hm,hp,hM',hk,hK⟩|⟨hs,R,hx,hk,hK⟩|⟨M1,hM1,hx⟩
   · refine .inl ⟨x,M1,hM1,?_,keep a hy x,hM,by rw[←Act.put_comm a v x h2];exact hK⟩
     unfold GAt at *
     rw[hex]at hx
     exact hx
   · refine .inr (.inl ⟨R,M1,hM1,?_,fun x N hR hf hE=>⟨keep a hy _,fun y hy'=>List.mem_append_right _ (hM y hy'),by rw[←Act.put_comm a v _ h2];exact hK x N hR hf hE⟩⟩)
     unfold FAt at *
     rw[hex]at hx
     exact hx
   · refine .inr (.inr (.inl ⟨hs,g,old,cs,t,M',hg,hm,?_,hM',hk,fun hE=>⟨keep a hy _,fun y hy'=>hk y (hst hs y hy') (hM y hy'),by rw[←Act.put_comm a v _ h2];exact hK hE⟩⟩))
     unfold PutAt at *
     rw[hex]at hp
     exact hp
   · refine .inr (.inr (.inr (.inl ⟨hs,R,fun u hu=>?_,hk,fun x M' hR hE=>⟨keep a hy _,fun y hy'=>hk x M' hR y (hst hs y hy') (hM y hy'),by rw[←Act.put_comm a v _ h2];exact hK x M' hR hE⟩⟩)))
     have hr:=hx u hu
     rw[hex]at hr
     exact hr
   · refine .inr (.inr (.inr (.inr ⟨M1,hM1,fun u hu=>?_⟩)))
     have hr:=hx u hu
     rw[hex]at hr
     exact hr
 · rename_i hw
   simp only[hw]at h
   exact⟨keep a hy _,hM,by rw[←Act.put_comm a v undef h2];exact h⟩
theorem anyH_first {Q:Act→Boxes→Prop} {i:Nat} {oi:Oper} {v:Value} {M0:Boxes} (hi:ops[i]?=some oi) (hsel: ∀(j:Nat)(o:Oper) cs b,ops[j]?=some o→o.op≠ .select cs b):
  ∀ (fuel:Nat) (listed:Array Bool) (a:Act) (M:Boxes),closedL md ops listed→(∀x∈M0,x∈M)→
    (∀j oj,ops[j]?=some oj→j≠i→listed.getD j true=false→ancB md ops ops.size j i=true∨(oi.apart ops oj=true∧(M0=[]∨storeB oj=false∨ ∀x∈M0,x∈Γ.keep j)))→
    i∈Region.ready md ops listed→YieldsH P ops w0 M0 oi v a→
    anyH (Γ:=Γ) P md ops w0 Q fuel (listed.setIfInBounds i true) (a.put oi.dst v) M→anyH (Γ:=Γ) P md ops w0 Q (fuel+1) listed a M:=by
 intro fuel
 induction fuel with
 |zero=>
  intro listed a M _ hM _ hr hy H
  refine⟨fun h=>(by rw[h]at hr;cases hr),fun j hj=>?_⟩
  by_cases hji:j=i
  · subst hji;exact hy.hOp hi hM H
  · have:=ready_mono hj hji
    rw[H.1]at this
    cases this
 | succ fuel ih=>
  intro listed a M hcl hM hfree hr hy H
  refine⟨fun h=>(by rw[h]at hr;cases hr),fun j hj=>?_⟩
  by_cases hji:j=i
  · subst hji;exact hy.hOp hi hM H
  · have h1:=H.2 j (ready_mono hj hji)
    obtain⟨hjun,oj,hoj,hall⟩:=mem_ready.1 hj
    have h0:=(mem_ready.1 hr).1
    have hno: ¬ancB md ops ops.size j i=true:=fun ha=>by
      have hl:=anc_listed hcl (i:=i) ops.size j (fun o ho e he hb=>by
        have:o=oj:=Option.some.inj (ho.symm.trans hoj)
        subst this
        exact hall e he hb) ha
      rcases Nat.lt_or_ge i listed.size with h'|h'
      · simp[h']at h0 hl;rw[h0]at hl;cases hl
      · simp[Array.getElem?_eq_none h']at hl
    rcases hfree j oj hoj hji hjun with hf|⟨hap,hps⟩
    · exact absurd hf hno
    · have hst:storeB oj=true→ ∀x∈M0,x∈Γ.keep j:=fun hs=>by
        rcases hps with hp'|hn|hn
        · rw[hp'];exact fun _ h=>(by cases h)
        · rw[hn]at hs;cases hs
        · exact hn
      have h2:=hOp_put hoj hap (fun cs b=>hsel i oi cs b hi) (fun cs b=>hsel j oj cs b hoj) hy hM hst h1
      have hfree': ∀k ok,ops[k]?=some ok→k≠i→(listed.setIfInBounds j true).getD k true=false→ancB md ops ops.size k i=true∨(oi.apart ops ok=true∧(M0=[]∨storeB ok=false∨ ∀x∈M0,x∈Γ.keep k)):=fun k ok hk hki hun=>by
        refine hfree k ok hk hki ?_
        by_cases hjk:j=k
        · subst hjk;exact hjun
        · rw[getD_set_ne true hjk]at hun;exact hun
      refine hOp_mono (fun a' M' h3=>ih (listed.setIfInBounds j true) a' M' (closedL_set hcl hj) h3.2.1 hfree' (ready_mono hr (Ne.symm hji)) h3.1 ?_) h2
      rw[Array.setIfInBounds_comm _ _ hji]
      exact h3.2.2
theorem anyH_phase0 {Q:Act→Boxes→Prop} {l:List Oper} (hs:Region.noSelect l.toArray=true) {L:Boxes} {s0:World} (h0:EnvX w0 s0 L): ∀(ord:List Nat)(f:Nat)(listed:Array Bool)(a:Act),closedL md l.toArray listed→
  lexG md l.toArray ord listed=true→wpG0 P l (EnvC w0 L) (fun a'=>anyH (Γ:=Γ) P md l.toArray w0 Q f (listedBy ord listed) a' L) ord a→anyH (Γ:=Γ) P md l.toArray w0 Q (ord.length+f) listed a L
 |[],f,listed,a,_,_,h=>by simpa [wpG0,listedBy] using h
 | i :: ord,f,listed,a,hcl,hB,h=>by
  simp only[lexG,Bool.and_eq_true]at hB
  obtain⟨⟨hr,hf⟩,hB'⟩:=hB
  have hr':i∈Region.ready md l.toArray listed:=by simpa using hr
  unfold wpG0 at h
  cases hl:l[i]? with
  |none=>simp only[hl]at h
  |some o=>
   simp only[hl]at h
   have ho:l.toArray[i]?=some o:=by simpa using hl
   have hpp:(l.toArray[i]?.map pureB).getD false=pureB o:=by rw[ho];rfl
   rw[hpp]at hf
   have hlen:(i::ord).length+f=(ord.length+f)+1:=by simp only[List.length_cons];omega
   rw[hlen]
   have hfr:=gfree_spec ho hf
   by_cases hw:Region.wanted o (yielded l.toArray a.tmps)=true
   · simp only[hw,if_true]at h
     obtain⟨v,hv,hK⟩:=h
     by_cases hpu:pureB o=true
     · exact anyH_first (M0:=[]) ho (Region.noSelect_spec hs) _ listed a L hcl (fun _ h=>by cases h) (fun j oj h1 h2 h3=>(hfr j oj h1 h2 h3).imp id (fun k=>⟨k.1, .inl rfl⟩)) hr' (.inl ⟨hw,fun u _=>pure_any hpu (hv s0 h0) u⟩)
        (anyH_phase0 hs h0 ord f _ _ (closedL_set hcl hr') hB' hK)
     · exact anyH_first (M0:=L) ho (Region.noSelect_spec hs) _ listed a L hcl (fun _ h=>h) (fun j oj h1 h2 h3=>(hfr j oj h1 h2 h3).imp id (fun k=>⟨k.1, .inr (.inl (k.2.resolve_left hpu))⟩)) hr' (.inl ⟨hw,hv⟩)
        (anyH_phase0 hs h0 ord f _ _ (closedL_set hcl hr') hB' hK)
   · simp only[hw,Bool.false_eq_true,if_false]at h
     have hw':Region.wanted o (yielded l.toArray a.tmps)=false:=by simpa using hw
     exact anyH_first (M0:=[]) ho (Region.noSelect_spec hs) _ listed a L hcl (fun _ h=>by cases h) (fun j oj h1 h2 h3=>(hfr j oj h1 h2 h3).imp id (fun k=>⟨k.1, .inl rfl⟩)) hr' (.inr ⟨hw',rfl⟩)
        (anyH_phase0 hs h0 ord f _ _ (closedL_set hcl hr') hB' h)
def closedB (md:Region.Mode) (ops:Array Oper) (listed:Array Bool):Bool:=
  (List.range ops.size).all fun j=>!listed.getD j false||match ops[j]? with
    |some oj=>oj.after.all fun e=>!Region.binds md e||listed.getD e.on false
    |none=>true
theorem closedL_of{listed:Array Bool}(h:closedB md ops listed=true):closedL md ops listed:=by
 intro j oj hj hl e he hb
 simp only[closedB,List.all_eq_true,List.mem_range]at h
 have h1:=h j (Array.getElem?_eq_some_iff.1 hj).1
 simp only[hl,hj,Bool.not_true,Bool.false_or]at h1
 have h2:=Array.all_eq_true_iff_forall_mem.1 h1 e he
 simpa [hb] using h2
theorem anyH_phase{Q:Act→Boxes→Prop}{l:List Oper}{F:Nat}(ord:List Nat)(f:Nat){L:Boxes}{listed:Array Bool}{a:Act}(hF:F=ord.length+f)(h0: ∃u,EnvX w0 u L)
  (hB:(Region.noSelect l.toArray&& closedB md l.toArray listed&& lexG md l.toArray ord listed)=true)
  (h:wpG P l (EnvC w0 L) (fun a'=>anyH (Γ:=Γ) P md l.toArray w0 Q f (listedBy ord listed) a' L) ord a):anyH (Γ:=Γ) P md l.toArray w0 Q F listed a L:=by
 subst hF
 simp only[Bool.and_eq_true]at hB
 obtain⟨s0,hs0⟩:=h0
 exact anyH_phase0 hB.1.1 hs0 ord f listed a (closedL_of hB.1.2) hB.2 h.out
theorem wp_region_H{id:Nat}{Q:Exit→Act→World→Prop}{a:Act}{w:World}{l:List Oper}(L:Boxes)(hm:P.follows .mixedOrders=true)(hE:EnvX w0 w L)
  (h:anyH (Γ:=HP.no) P .any l.toArray w0 (fun a M=> ∀u,EnvX w0 u M→Q .normal a u) l.toArray.size (Array.replicate l.toArray.size false) a L):
  (Code.region id l.toArray true).wp P Q a w:=
 wp_region_any hm (wpAny_of_H (w0:=w0) (Q:=fun a M=> ∀u,EnvX w0 u M→Q .normal a u) (fun _ _ u hu hh=>hh u hu) _ _ _ L _ hE.drew h)
def lexH{Γ:HP}(P:Program)(ops:Array Oper)(w0:World)(Q:Act→Boxes→Prop):List Nat→Act→Boxes→Prop
  |[],a,M=>Q a M
  |i::rest,a,M=>hOp (Γ:=Γ) P ops w0 i (lexH (Γ:=Γ) P ops w0 Q rest) a M
theorem wpOps_of_lexHP{Q:Act→Boxes→Prop}{Q':Exit→Act→World→Prop}{a0:Act}(hP: ∀a,AlikeA ops a0 a→ ∀c u,Γ.post c u→Q' (.panic c) a u)(hQ: ∀a M u,EnvX w0 u M→Q a M→Q' .normal a u):
  ∀(l:List Nat)(a:Act)(M:Boxes)(u:World),AlikeA ops a0 a→EnvX w0 u M→lexH (Γ:=Γ) P ops w0 Q l a M→wpOps P ops Q' l a u
 |[],_,_,_,_,hu,h=>hQ _ _ _ hu h
 |i::l,_,_,_,hz,hu,h=>by
  rw[wpOps_cons]
  exact wpOp_of_hOp hu (AlikeA ops a0) hz (fun _ ho v=>hz.put ho v) (hP _ hz) (fun a' M' u' hz' hu'=>wpOps_of_lexHP hP hQ l a' M' u' hz' hu') h
theorem lexH_phase0{l:List Oper}{Q:Act→Boxes→Prop}{L:Boxes}(rest:List Nat): ∀(ord:List Nat)(a:Act),wpG0 P l (EnvC w0 L) (fun a'=>lexH (Γ:=Γ) P l.toArray w0 Q rest a' L) ord a→lexH (Γ:=Γ) P l.toArray w0 Q (ord++rest) a L
 |[],a,h=>h
 | i ::ord,a,h=>by
  unfold wpG0 at h
  show hOp (Γ:=Γ) P l.toArray w0 i (lexH (Γ:=Γ) P l.toArray w0 Q (ord++rest)) a L
  unfold hOp
  cases hl:l[i]? with
  |none=>simp only[hl]at h
  |some o=>
   simp only[hl]at h
   have ho:l.toArray[i]?=some o:=by simpa using hl
   simp only[ho]
   split
   · rename_i hw
     simp only[hw,if_true]at h
     obtain⟨v,hv,hK⟩:=h
     exact .inl ⟨v,L,fun _ h=>h,hv,lexH_phase0 rest ord _ hK⟩
   · rename_i hw
     simp only[hw]at h
     exact lexH_phase0 rest ord _ h
theorem lexH_phase{l:List Oper}{Q:Act→Boxes→Prop}{L:Boxes}(ord rest:List Nat){a:Act}(h:wpG P l (EnvC w0 L) (fun a'=>lexH (Γ:=Γ) P l.toArray w0 Q rest a' L) ord a):lexH (Γ:=Γ) P l.toArray w0 Q (ord++rest) a L:=
 lexH_phase0 rest ord a h.out
theorem wp_region_Hx{id:Nat}{Q:Exit→Act→World→Prop}{a:Act}{w:World}{l:List Oper}(all:List Nat)(L:Boxes)(hr:List.range l.toArray.size=all)(hE:EnvX w0 w L)
  (h:lexH (Γ:=HP.no) P l.toArray w0 (fun a M=> ∀u,EnvX w0 u M→Q .normal a u) all a L):(Code.region id l.toArray false).wp P Q a w:=
 wp_region (by rw[hr];exact wpOps_of_lexHP (Γ:=HP.no) (w0:=w0) (Q:=fun a M=> ∀u,EnvX w0 u M→Q .normal a u) (fun _ _ _ _ h=>False.elim h) (fun _ _ u hu hh=>hh u hu) _ a L w (AlikeA.refl a) hE h)
section
variable {Q:Act→Boxes→Prop}{f:Nat}{listed:Array Bool}{a:Act}{M:Boxes}{K:Act→Boxes→Prop}{i:Nat}{dst:Option Tmp}{op:Op}{ty:TypeId}{pos:String}{after:Array Edge}
theorem anyH_done(hr:Region.ready md ops listed=[])(h:Q a M):anyH (Γ:=Γ) P md ops w0 Q 0 listed a M:=⟨hr,h⟩
theorem anyH_one(hr:Region.ready md ops listed=[i])(h:hOp (Γ:=Γ) P ops w0 i (anyH (Γ:=Γ) P md ops w0 Q f (listed.setIfInBounds i true)) a M):anyH (Γ:=Γ) P md ops w0 Q (f+1) listed a M:=
 ⟨(fun h0=>by rw[hr]at h0;cases h0),(fun j hj=>by rw[hr]at hj;cases List.mem_singleton.1 hj;exact h)⟩
theorem anyH_two{j:Nat}(hr:Region.ready md ops listed=[i,j])(h:hOp (Γ:=Γ) P ops w0 i (anyH (Γ:=Γ) P md ops w0 Q f (listed.setIfInBounds i true)) a M)
  (h':hOp (Γ:=Γ) P ops w0 j (anyH (Γ:=Γ) P md ops w0 Q f (listed.setIfInBounds j true)) a M):anyH (Γ:=Γ) P md ops w0 Q (f+1) listed a M:=
 ⟨(fun h0=>by rw[hr]at h0;cases h0),(fun k hk=>by
  rw[hr]at hk
  rcases List.mem_cons.1 hk with e|e
  · cases e;exact h
  · cases List.mem_singleton.1 e;exact h')⟩
theorem hOp_fresh{o:Oper}(R:Value→Boxes→Prop)(M0:Boxes)(ho:ops[i]?=some o)(heq:o=⟨dst,op,ty,pos,after,none⟩)(hM: ∀x∈M0,x∈M)(hv: ∀u,EnvX w0 u M0→FAt P ⟨dst,op,ty,pos,after,none⟩ a R u)
  (h: ∀x N,R x N→freshN w0 N M→(∃u,EnvX w0 u (N++M))→ ∀K':Act→Prop,(∀a',K a' (N++M)→K' a')→Oper.quiet P ⟨dst, .move (.const x),ty,pos,after,none⟩ a (fun _=>True) K'):hOp (Γ:=Γ) P ops w0 i K a M:=by
 subst heq
 unfold hOp
 simp only[ho,Region.wanted,if_true]
 exact .inr (.inl ⟨R,M0,hM,hv,fun x N hR hf hE=>put_told (K:=fun a'=>K a' (N++M)) w0 (h x N hR hf hE)⟩)
theorem hOp_freshG{o:Oper}{gd:Option (Nat × Bool)}(R:Value→Boxes→Prop)(M0:Boxes)(ho:ops[i]?=some o)(heq:o=⟨dst,op,ty,pos,after,gd⟩)(hw:Region.wanted ⟨dst,op,ty,pos,after,gd⟩ (yielded ops a.tmps)=true)(hM: ∀x∈M0,x∈M)(hv: ∀u,EnvX w0 u M0→FAt P ⟨dst,op,ty,pos,after,gd⟩ a R u)
  (h: ∀x N,R x N→freshN w0 N M→(∃u,EnvX w0 u (N++M))→ ∀K':Act→Prop,(∀a',K a' (N++M)→K' a')→Oper.quiet P ⟨dst, .move (.const x),ty,pos,after,none⟩ a (fun _=>True) K'):hOp (Γ:=Γ) P ops w0 i K a M:=by
 subst heq
 unfold hOp
 simp only[ho,hw,if_true]
 exact .inr (.inl ⟨R,M0,hM,hv,fun x N hR hf hE=>put_told (K:=fun a'=>K a' (N++M)) w0 (h x N hR hf hE)⟩)
theorem hOp_own{o:Oper}{gd:Option (Nat × Bool)}(R:Value→Boxes→Prop)(ho:ops[i]?=some o)(heq:o=⟨dst,op,ty,pos,after,gd⟩)(hst:storeB o=true)(hw:Region.wanted ⟨dst,op,ty,pos,after,gd⟩ (yielded ops a.tmps)=true)
  (hv: ∀u,EnvX w0 u M→ ∃x u' M',(execOp a.eval ⟨dst,op,ty,pos,after,gd⟩).run P u= .ok (.value x) u'∧EnvX w0 u' M'∧R x M')
  (h: ∀x M',R x M'→(∃u,EnvX w0 u M')→ ∀K':Act→Prop,(∀a',K a' M'→K' a')→Oper.quiet P ⟨dst, .move (.const x),ty,pos,after,none⟩ a (fun _=>True) K') (hkeep: ∀x M',R x M'→ ∀y∈Γ.keep i,y∈M→y∈M':=by exact no_keepR):hOp (Γ:=Γ) P ops w0 i K a M:=by
 subst heq
 unfold hOp
 simp only[ho,hw,if_true]
 exact .inr (.inr (.inr (.inl ⟨hst,R,fun u hu=>(by
  obtain⟨x,u',M',hr,hE⟩:=hv u hu
  rw[hr]
  exact⟨M',hE⟩),hkeep,fun x M' hR hE=>put_told (K:=fun a'=>K a' M') w0 (h x M' hR hE)⟩)))
theorem hOp_turn{o:Oper}{gd:Option (Nat × Bool)}(R:Value→Boxes→Prop)(ho:ops[i]?=some o)(heq:o=⟨dst,op,ty,pos,after,gd⟩)(hst:storeB o=true)(hw:Region.wanted ⟨dst,op,ty,pos,after,gd⟩ (yielded ops a.tmps)=true)
  (hv: ∀u,EnvX w0 u M→OUpon P w0 R ((execOp a.eval ⟨dst,op,ty,pos,after,gd⟩).run P u))
  (h: ∀x M',R x M'→(∃u,EnvX w0 u M')→ ∀K':Act→Prop,(∀a',K a' M'→K' a')→Oper.quiet P ⟨dst, .move (.const x),ty,pos,after,none⟩ a (fun _=>True) K') (hkeep: ∀x M',R x M'→ ∀y∈Γ.keep i,y∈M→y∈M':=by exact no_keepR):hOp (Γ:=Γ) P ops w0 i K a M:=by
 subst heq
 unfold hOp
 simp only[ho,hw,if_true]
 exact .inr (.inr (.inr (.inl ⟨hst,R,hv,hkeep,fun x M' hR hE=>put_told (K:=fun a'=>K a' M') w0 (h x M' hR hE)⟩)))
theorem hOp_storeAt{ty':TypeId}{x y:Operand}(ho:ops[i]?=some ⟨none, .store ty' x y,ty,pos,after,none⟩)
  (g k:Nat) (v:Value) (hx:a.eval x= .pointer (some ⟨g,k,none⟩)) (hy:a.eval y=v) (hg:w0.heap.size≤g) (t:TypeId) (old cs:Array Value) (hm:(g,Obj.cells old t (0,0))∈M)
  (hi:(P.info? ty').map (·.size)=some v.cells.size) (hk:k+v.cells.size≤old.size) (h1:v.cells.all (·.oneCell')=true) (hcs:old.toList.take k++v.cells.toList++old.toList.drop (k+v.cells.size)=cs.toList) (M':Boxes) (hM': ∀x∈M',x=(g,Obj.cells cs t (0,0))∨(x∈M∧x.1≠g))
  (h:(∃u,EnvX w0 u M')→K (a.put none undef) M') (hkeep: ∀x∈Γ.keep i,x∈M→x∈M':=by exact no_keep):hOp (Γ:=Γ) P ops w0 i K a M:=by
 unfold hOp
 simp only[ho,Region.wanted,if_true]
 refine .inr (.inr (.inl ⟨rfl,g,old,cs,t,M',hg,hm,fun u hu=>?_,hM',hkeep,h⟩))
 have hst:=run_storeCells_at P g k t v.cells.toList 0 old u hu (by simpa using hk) (fun z hz=>(Array.all_eq_true_iff_forall_mem.1 h1) z (by simpa using hz))
 have hsv:(storeVar ty' ⟨g,k,none⟩ v).run P u= .ok () (u.setRow g cs):=by
  have e:(old.toList.take (k+0)++v.cells.toList++old.toList.drop (k+0+v.cells.toList.length)).toArray=cs:=by
   rw[Nat.add_zero,Array.length_toList,hcs,Array.toArray_toList]
  rw[e]at hst
  cases hq:P.info? ty' with
  |none=>simp[hq]at hi
  |some i=>
   have hs:v.cells.size=i.size:=by simp[hq]at hi;omega
   simp[storeVar,sizeOf,typeInfo,hq,hs,hst]
 unfold execOp
 simp only[hx,hy,Instr.storeAt,Instr.sureAddr,Sem.run_bind,Sem.run_pure,Result.andThen_ok,hsv]
theorem FAt_new{z:Obj}{o:Oper}(hz:NewAt P o a z)(u:World):FAt P o a (fun x N=> ∃g,x= .pointer (some ⟨g,0,none⟩)∧N=[(g,z)]) u:=by
 unfold FAt
 rw[hz u]
 refine⟨(Below.refl _ _).alloc (Nat.le_refl _) _,_,⟨_,rfl,rfl⟩,fun y hy=>?_⟩
 cases List.mem_singleton.1 hy
 exact⟨Nat.le_refl _,heap_alloc_new u z⟩
theorem hOp_new(z:Obj)(ho:ops[i]?=some ⟨dst,op,ty,pos,after,none⟩)(hz:NewAt P ⟨dst,op,ty,pos,after,none⟩ a z)
  (h: ∀g,w0.heap.size≤g→(∀x∈M,x.1≠g)→(∃u,EnvX w0 u ((g,z)::M))→ ∀K':Act→Prop,(∀a',K a' ((g,z)::M)→K' a')→Oper.quiet P ⟨dst, .move (.const (.pointer (some ⟨g,0,none⟩))),ty,pos,after,none⟩ a (fun _=>True) K'):hOp (Γ:=Γ) P ops w0 i K a M:=
 hOp_fresh _ [] ho rfl (fun _ h=>by cases h) (fun u _=>FAt_new hz u) (by
  rintro x N ⟨g,rfl,rfl⟩ hf hE
  exact h g (hf (g,z) (List.mem_singleton.2 rfl)).1 (fun y hy=>(hf (g,z) (List.mem_singleton.2 rfl)).2 y hy) hE)
theorem FAt_call{fn:Func}{c:Code}{fid:FuncId}{xs:Array Operand}{ats:Array TypeId}{args:Array Value}{R:Value→Boxes→Prop}{gd:Option (Nat × Bool)}(hargs:xs.toList.map a.eval=args.toList)(hfn:P.funcs[fid]?=some fn)(hname:(fn.name== "runtime.NumGoroutine")=false)(hb:fn.body=some c)(u:World)
  (hc:Calls P fid args u (fun e w''=> ∃x N,e= .returned x∧R x N∧Below u.heap.size u w''∧ ∀y∈N,u.heap.size≤y.1∧w''.heap[y.1]?=some y.2)):
  FAt P ⟨dst, .call {callee:= .value (.func fid),args:=xs,argTypes:=ats},ty,pos,after,gd⟩ a R u:=by
 have hrun:(execOp a.eval ⟨dst, .call {callee:= .value (.func fid),args:=xs,argTypes:=ats},ty,pos,after,gd⟩).run P u= .ok (.enter fid args) u:=by
  have ha:xs.map a.eval=args:=by
   apply Array.ext'
   rw[Array.toList_map]
   exact hargs
  rw[execOp_call_go]
  simp only[Array.empty_append,Array.append_empty,ha]
  exact run_enter hfn hname hb _ u
 unfold FAt
 rw[hrun]
 exact⟨rfl,hc⟩
theorem OUpon_call{fn:Func}{c:Code}{fid:FuncId}{xs:Array Operand}{ats:Array TypeId}{args:Array Value}{R:Value→Boxes→Prop}{gd:Option (Nat × Bool)}(hargs:xs.toList.map a.eval=args.toList)(hfn:P.funcs[fid]?=some fn)(hname:(fn.name== "runtime.NumGoroutine")=false)(hb:fn.body=some c)(u:World)
  (hc:Calls P fid args u (fun e w''=> ∃x M',e= .returned x∧EnvX w0 w'' M'∧R x M')):
  OUpon P w0 R ((execOp a.eval ⟨dst, .call {callee:= .value (.func fid),args:=xs,argTypes:=ats},ty,pos,after,gd⟩).run P u):=by
 have hrun:(execOp a.eval ⟨dst, .call {callee:= .value (.func fid),args:=xs,argTypes:=ats},ty,pos,after,gd⟩).run P u= .ok (.enter fid args) u:=by
  have ha:xs.map a.eval=args:=by
   apply Array.ext'
   rw[Array.toList_map]
   exact hargs
  rw[execOp_call_go]
  simp only[Array.empty_append,Array.append_empty,ha]
  exact run_enter hfn hname hb _ u
 rw[hrun]
 exact hc
theorem hOp_store{ty':TypeId}{x y:Operand}(ho:ops[i]?=some ⟨none, .store ty' x y,ty,pos,after,none⟩)
  (g:Nat) (cs:Array Value) (hx:a.eval x= .pointer (some ⟨g,0,none⟩)) (hy:a.eval y= .agg cs) (hg:w0.heap.size≤g) (t:TypeId) (old:Array Value) (hm:(g,Obj.cells old t (0,0))∈M)
  (hi:(P.info? ty').map (·.size)=some cs.size) (hold:old.size=cs.size) (h1:cs.all (·.oneCell')=true) (M':Boxes) (hM': ∀x∈M',x=(g,Obj.cells cs t (0,0))∨(x∈M∧x.1≠g))
  (h:(∃u,EnvX w0 u M')→K a M') (hkeep: ∀x∈Γ.keep i,x∈M→x∈M':=by exact no_keep):hOp (Γ:=Γ) P ops w0 i K a M:=by
 unfold hOp
 simp only[ho,Region.wanted,if_true]
 refine .inr (.inr (.inl ⟨rfl,g,old,cs,t,M',hg,hm,fun u hu=>?_,hM',hkeep,h⟩))
 unfold execOp
 simp only[hx,hy,Instr.storeAt,Instr.sureAddr,Sem.run_bind,Sem.run_pure,Result.andThen_ok,run_storeVar_row u g t ty' old cs hu hi hold h1]
theorem hOp_perm {M M':Boxes} (hK: ∀a(M M':Boxes),(∀x,x∈M↔x∈M')→K a M→K a M') (hM: ∀x,x∈M↔x∈M') (hh:hOp (Γ:=Γ) P ops w0 i K a M):hOp (Γ:=Γ) P ops w0 i K a M':=by
 unfold hOp at *
 split
 · rename_i h;simp only[h]at hh;exact hK _ _ _ hM hh
 · rename_i o ho
   simp only[ho]at hh
   split
   · rename_i hw
     simp only[hw,if_true]at hh
     rcases hh with ⟨v,M0,h0,hv,h⟩|⟨R,M0,h0,hv,h⟩|⟨hs,g,old,cs,t,N,hg,hm,hp,hN,hk,h⟩|⟨hs,R,hv,hk,h⟩|⟨M0,h0,hv⟩
     · exact .inl ⟨v,M0,fun x hx=>(hM x).1 (h0 x hx),hv,hK _ _ _ hM h⟩
     · exact .inr (.inl ⟨R,M0,fun x hx=>(hM x).1 (h0 x hx),hv,fun x N hR hf hE=>hK _ _ _ (fun y=>by simp only[List.mem_append,hM y])
        (h x N hR (fun y hy=>⟨(hf y hy).1,fun z hz=>(hf y hy).2 z ((hM z).1 hz)⟩) (hE.imp fun u hu=>hu.sub (fun y hy=>by simp only[List.mem_append,hM y]at hy ⊢;exact hy)))⟩)
     · exact .inr (.inr (.inl ⟨hs,g,old,cs,t,N,hg,(hM _).1 hm,hp,fun x hx=>(hN x hx).imp id (fun⟨k1,k2⟩=>⟨(hM _).1 k1,k2⟩),fun x hx hm'=>hk x hx ((hM x).2 hm'),h⟩))
     · exact .inr (.inr (.inr (.inl ⟨hs,R,fun u hu=>hv u (hu.sub fun x hx=>(hM x).1 hx),fun x M' hR y hy hm'=>hk x M' hR y hy ((hM y).2 hm'),h⟩)))
     · exact .inr (.inr (.inr (.inr ⟨M0,fun x hx=>(hM x).1 (h0 x hx),hv⟩)))
   · rename_i hw;simp only[hw]at hh;exact hK _ _ _ hM hh
theorem anyH_perm(hQ: ∀a(M M':Boxes),(∀x,x∈M↔x∈M')→Q a M→Q a M'): ∀(f:Nat)(listed:Array Bool)(a:Act)(M M':Boxes),(∀x,x∈M↔x∈M')→
  anyH (Γ:=Γ) P md ops w0 Q f listed a M→anyH (Γ:=Γ) P md ops w0 Q f listed a M'
 |0,_,_,_,_,hM,h=>⟨h.1,hQ _ _ _ hM h.2⟩
 |f+1,_,_,_,_,hM,h=>⟨fun h0=>hQ _ _ _ hM (h.1 h0),fun i hi=>hOp_perm (fun a' M1 M2 h12 h'=>anyH_perm hQ f _ a' M1 M2 h12 h') hM (h.2 i hi)⟩
theorem env_perm{Q':Exit→Act→World→Prop}(a:Act)(M M':Boxes)(hM: ∀x,x∈M↔x∈M')(h: ∀u,EnvX w0 u M→Q' .normal a u): ∀u,EnvX w0 u M'→Q' .normal a u:=
 fun u hu=>h u (hu.sub (fun x hx=>(hM x).1 hx))
end
end
section
variable {P:Program}{Γ:HP}{md:Region.Mode}{w0 u0:World}{L:Boxes}{id:Nat}{R:Exit→Act→World→Prop}{Q:Act→Boxes→Prop}{a:Act}{w:World}{l:List Oper}{ops:Array Oper}{C:World→Prop}{listed:Array Bool}{F:Nat}
theorem rgP(ord rest:List Nat)(hE:Hid (EnvX w0 w L))(hr:List.range l.toArray.size=ord++rest)
  (h:EnvX w0 w L→(∀x y:Value,(∀v,EnvC w0 L v→x=y) ↔x=y)→wpG P l (EnvC w0 L) (fun a'=>lexH (Γ:=HP.no) P l.toArray w0 (fun a M=> ∀u,EnvX w0 u M→R .normal a u) rest a' L) ord a):(Code.region id l.toArray false).wp P R a w:=
 wp_region_Hx (w0:=w0) (ord++rest) L hr hE.out (lexH_phase ord rest (h hE.out (@EnvC.one _ _ _ hE.out)))
theorem phP(ord rest:List Nat)(hw:EnvX w0 u0 L)
  (h:(∀x y:Value,(∀v,EnvC w0 L v→x=y) ↔x=y)→wpG P l (EnvC w0 L) (fun a'=>lexH (Γ:=Γ) P l.toArray w0 Q rest a' L) ord a):lexH (Γ:=Γ) P l.toArray w0 Q (ord++rest) a L:=
 lexH_phase ord rest (h (@EnvC.one _ _ _ hw))
theorem enP(h: ∀u,Hid (EnvX w0 u L)→R .normal a u):wpG P l C (fun a'=>lexH (Γ:=Γ) P ops w0 (fun a M=> ∀u,EnvX w0 u M→R .normal a u) [] a' L) [] a:=⟨fun u hu=>h u hu⟩
theorem enL(h: ∀u,Hid (EnvX w0 u L)→R .normal a u):lexH (Γ:=Γ) P ops w0 (fun a M=> ∀u,EnvX w0 u M→R .normal a u) [] a L:=fun u hu=>h u hu
theorem rgH(ord:List Nat)(f:Nat)(hE:Hid (EnvX w0 w L))(hF:l.toArray.size=ord.length+f)(hm:P.follows .mixedOrders=true)
  (hB:(Region.noSelect l.toArray&& closedB .any l.toArray (Array.replicate l.toArray.size false) && lexG .any l.toArray ord (Array.replicate l.toArray.size false))=true)
  (h:EnvX w0 w.drew L→(∀x y:Value,(∀v,EnvC w0 L v→x=y) ↔x=y)→wpG P l (EnvC w0 L) (fun a'=>anyH (Γ:=HP.no) P .any l.toArray w0 (fun a M=> ∀u,EnvX w0 u M→R .normal a u) f (listedBy ord (Array.replicate l.toArray.size false)) a' L) ord a):(Code.region id l.toArray true).wp P R a w:=
 wp_region_H (w0:=w0) L hm hE.out (anyH_phase ord f hF ⟨_,EnvX.drew hE.out⟩ hB (h (EnvX.drew hE.out) (@EnvC.one _ _ _ (EnvX.drew hE.out))))
theorem phH(ord:List Nat)(f:Nat)(hF:F=ord.length+f)(hw:EnvX w0 u0 L)(hB:(Region.noSelect l.toArray&& closedB md l.toArray listed&& lexG md l.toArray ord listed)=true)
  (h:(∀x y:Value,(∀v,EnvC w0 L v→x=y) ↔x=y)→wpG P l (EnvC w0 L) (fun a'=>anyH (Γ:=Γ) P md l.toArray w0 Q f (listedBy ord listed) a' L) ord a):anyH (Γ:=Γ) P md l.toArray w0 Q F listed a L:=
 anyH_phase ord f hF ⟨_,hw⟩ hB (h (@EnvC.one _ _ _ hw))
theorem enH(hr:Region.ready md ops listed=[])(h: ∀u,Hid (EnvX w0 u L)→R .normal a u):wpG P l C (fun a'=>anyH (Γ:=Γ) P md ops w0 (fun a M=> ∀u,EnvX w0 u M→R .normal a u) 0 listed a' L) [] a:=
 wpG_nil (anyH_done (Q:=fun a M=> ∀u,EnvX w0 u M→R .normal a u) hr fun u hu=>h u hu)
theorem enM(hr:Region.ready md ops listed=[])(h: ∀u,Hid (EnvX w0 u L)→R .normal a u):anyH (Γ:=Γ) P md ops w0 (fun a M=> ∀u,EnvX w0 u M→R .normal a u) 0 listed a L:=anyH_done (Q:=fun a M=> ∀u,EnvX w0 u M→R .normal a u) hr fun u hu=>h u hu
end
end Go.Proofs.YtojmeodoenkapaaGreatDoor
