/- Part of a proof. -/
import Derived.Test.YtojmeodoenkapaaGreatDoorRows
import Derived.WalkKit
import Derived.ProofKit
import Derived.OpenShut
import Derived.ChangeOld
import Derived.Below
import Derived.Deep.DeepHandedRow
import Derived.LaidLaws
import Derived.Deep.Draws
import Derived.Laws.Rows
import Derived.Laws.Tables
import Derived.Deep.WholeRow
import Derived.Test.YtojmeodoenkapaaGreatDoorProg
import Derived.Handy
import Derived.Maps.AppendAt
import Derived.Laws.BytesArg
import Derived.Laws.StructEq
import Derived.ChangeKeysEq
import Derived.Lib.SlBytesConst
import Derived.Deep.MidRow
import Derived.Laws.CopyOwn
import Derived.Laws.MakeOwn
import Derived.Deep.Cut
import Derived.Deep.QuietTactic
import Derived.BigQuiet
import Derived.StillTailTactics
import Derived.Lib.Hide
import Derived.Deep.Slices
import Derived.Test.YtojmeodoenkapaaGreatDoorCards
import Derived.Test.YtojmeodoenkapaaGreatDoorTie
import Derived.Lib.LaidTab
import Derived.Great.BuildSlice
import Derived.Laws.Cells
import Derived.Laws.BitsAllLaws
import Derived.Deep.RegionHeld3
import Derived.Deep.RegionLaw
import Derived.Deep.RegionHeld
import Derived.Laws.Bits64b
import Derived.Laws.Externs
import Derived.Deep.DrawnRows
import Derived.RegionTactic
import Derived.Great.FillDense
open Go.Proofs.Tryz
namespace Go.Proofs.YtojmeodoenkapaaGreatDoor
set_option maxRecDepth 20000
set_option maxHeartbeats 8000000
set_option linter.unusedVariables false
set_option linter.unusedSimpArgs false
open Go.ChangeShapes Go.WideShapes Go.ChangeAt Go.RowKit
theorem own:ownKnob Tryz.prog.godebug=none:=by kernel_rfl
theorem laidOut:laidOutB Tryz.prog=true:=by kernel_rfl
open Go Go.RowKit
theorem j2Z{B:Nat}{a w:World}(h:Below B a w)(n:Nat):Below B a (w.drewN n):=⟨h.os,h.tape,h.output,h.size,h.block⟩
def Row(w:World)(g:Nat)(t:TypeId)(cs:Array Value):Prop:=w.heap[g]?=some (.cells cs t (0,0))
theorem Row.lt{w:World}{g:Nat}{t:TypeId}{cs:Array Value}(h:Row w g t cs):g<w.heap.size:=by
 rcases Nat.lt_or_ge g w.heap.size with hl|hl
 · exact hl
 · unfold Row at h
   rw[Array.getElem?_eq_none hl]at h
   cases h
theorem Row.cell{w:World}{g:Nat}{t:TypeId}{cs:Array Value}(h:Row w g t cs)(i:Nat):w.cell? ⟨g,i,none⟩=cs[i]?:=cell_of_row w g i cs t (0,0) h
theorem Row.frozen{w:World}{g:Nat}{t:TypeId}{cs:Array Value}(h:Row w g t cs)(i:Nat):w.frozen? ⟨g,i,none⟩=false:=by
 unfold Row at h
 simp[World.frozen?,h]
theorem Row.new(w:World)(t:TypeId)(cs:Array Value):Row (w.alloc (.cells cs t)) w.heap.size t cs:=by
 show (w.heap.push _)[w.heap.size]?=_
 simp
theorem Row.newAt{w:World}{g:Nat}(h:w.heap.size=g)(t:TypeId)(cs:Array Value):Row (w.alloc (.cells cs t)) g t cs:=h ▸ Row.new w t cs
theorem Row.drewN{w:World}{g:Nat}{t:TypeId}{cs:Array Value}(h:Row w g t cs)(n:Nat):Row (w.drewN n) g t cs:=h
theorem Row.drew{w:World}{g:Nat}{t:TypeId}{cs:Array Value}(h:Row w g t cs):Row w.drew g t cs:=h
theorem Row.alloc{w:World}{g:Nat}{t:TypeId}{cs:Array Value}(h:Row w g t cs)(o:Obj):Row (w.alloc o) g t cs:=(Below.heap_alloc w o g h.lt).trans h
theorem Row.put{w:World}{g:Nat}{t:TypeId}{cs:Array Value}(h:Row w g t cs)(i:Nat)(u:Value):Row (w.setCell ⟨g,i,none⟩ u) g t (cs.setIfInBounds i u):=by
 unfold Row at h ⊢
 simp[World.setCell,Array.getElem?_modify,h]
theorem Row.far{w:World}{g:Nat}{t:TypeId}{cs:Array Value}(h:Row w g t cs){p:Addr}(hp:g≠p.block)(u:Value):Row (w.setCell p u) g t cs:=(Below.heap_setCell w p u g hp).trans h
theorem Row.farAt{w:World}{g:Nat}{t:TypeId}{cs:Array Value}(h:Row w g t cs){g' i:Nat}(hp:g≠g')(u:Value):Row (w.setCell ⟨g',i,none⟩ u) g t cs:=h.far hp u
theorem Row.below{w w':World}{B g:Nat}{t:TypeId}{cs:Array Value}(h:Row w g t cs)(hb:Below B w w')(hg:g<B):Row w' g t cs:=(hb.block g hg).trans h
theorem Row.setRow{w:World}{g:Nat}{t:TypeId}{cs cs':Array Value}(h:Row w g t cs):Row (w.setRow g cs') g t cs':=setRow_heap w g cs cs' t (0,0) h
theorem Row.setRowFar{w:World}{g g':Nat}{t:TypeId}{cs cs':Array Value}(h:Row w g t cs)(hg:g≠g'):Row (w.setRow g' cs') g t cs:=(setRow_other w g' g cs' hg).trans h
theorem j0G{B:Nat}{a w:World}(h:Below B a w){g:Nat}(hg:B≤g)(cs:Array Value):Below B a (w.setRow g cs):=
 ⟨h.os,h.tape,h.output,by simpa [World.setRow] using h.size,fun i hi=>(setRow_other w g i cs (by omega)).trans (h.block i hi)⟩
theorem j75(w:World)(g:Nat)(cs:Array Value):(w.setRow g cs).heap.size=w.heap.size:=by simp[World.setRow]
def u8v(n:Int):Value:= .int .u8 n
def j0d(n:Nat)(l:List Int):Array Value:=((l++List.replicate (n- l.length) 0).map u8v).toArray
theorem j0c(n:Nat)(l:List Int)(h:l.length≤n):(j0d n l).size=n:=by simp[j0d];omega
theorem j0Q(n:Nat)(l:List Int):(j0d n l).all (·.oneCell')=true:=by
 simp only[j0d,List.all_toArray,List.all_map,List.all_eq_true,Function.comp]
 exact fun _ _=>rfl
theorem j1U(n:Nat)(l:List Int)(i:Nat)(h:l.length≤n)(hi:i<n):(j0d n l)[i]?=some (.int .u8 (l.getD i 0)):=by
 unfold j0d
 simp only[List.getElem?_toArray,List.getElem?_map]
 by_cases hl:i<l.length
 · rw[List.getElem?_append_left hl,List.getElem?_eq_getElem hl]
   simp[u8v,List.getD,List.getElem?_eq_getElem hl]
 · rw[List.getElem?_append_right (by omega),List.getElem?_replicate,if_pos (by omega)]
   simp[u8v,List.getD,List.getElem?_eq_none (by omega:l.length≤i)]
theorem j5E(n:Nat)(l:List Int)(cs:Array Value)(h:l.length≤n)(hs:cs.size=n)(hg: ∀i,i<n→cs[i]?=some (.int .u8 (l.getD i 0))):cs=j0d n l:=by
 apply Array.ext_getElem?
 intro i
 by_cases hi:i<n
 · rw[hg i hi,j1U n l i h hi]
 · rw[Array.getElem?_eq_none (by omega),Array.getElem?_eq_none (by rw[j0c n l h];omega)]
theorem q9O(n:Nat)(l:List Int)(v:Int)(h:l.length<n):(j0d n l).setIfInBounds l.length (.int .u8 v)=j0d n (l++[v]):=by
 apply j5E
 · simp;omega
 · rw[Array.size_setIfInBounds,j0c n l (by omega)]
 · intro i hi
   rw[Array.getElem?_setIfInBounds,j0c n l (by omega)]
   by_cases e:l.length=i
   · subst e;simp[h]
   · rw[if_neg e,j1U n l i (by omega) hi]
     congr 2
     by_cases hl:i<l.length
     · simp[List.getD,List.getElem?_append_left hl]
     · simp[List.getD,List.getElem?_eq_none (by omega:l.length≤i),List.getElem?_eq_none (by simp;omega:(l++[v]).length≤i)]
theorem j3p(n:Nat)(l:List Int)(v:Int)(k:Nat)(hk:l.length=k)(h:k<n):(j0d n l).setIfInBounds k (.int .u8 v)=j0d n (l++[v]):=by
 subst hk
 exact q9O n l v h
def x4o(n:Int):Value:= .int .u64 n
def j2b(n:Nat)(l:List Int):Array Value:=((l++List.replicate (n- l.length) 0).map x4o).toArray
theorem j1X(n:Nat)(l:List Int)(h:l.length≤n):(j2b n l).size=n:=by simp[j2b];omega
theorem j5I(n:Nat)(l:List Int):(j2b n l).all (·.oneCell')=true:=by
 simp only[j2b,List.all_toArray,List.all_map,List.all_eq_true,Function.comp]
 exact fun _ _=>rfl
theorem j2p(n:Nat)(l:List Int)(i:Nat)(h:l.length≤n)(hi:i<n):(j2b n l)[i]?=some (.int .u64 (l.getD i 0)):=by
 unfold j2b
 simp only[List.getElem?_toArray,List.getElem?_map]
 by_cases hl:i<l.length
 · rw[List.getElem?_append_left hl,List.getElem?_eq_getElem hl]
   simp[x4o,List.getD,List.getElem?_eq_getElem hl]
 · rw[List.getElem?_append_right (by omega),List.getElem?_replicate,if_pos (by omega)]
   simp[x4o,List.getD,List.getElem?_eq_none (by omega:l.length≤i)]
theorem q20(n:Nat)(l:List Int)(cs:Array Value)(h:l.length≤n)(hs:cs.size=n)(hg: ∀i,i<n→cs[i]?=some (.int .u64 (l.getD i 0))):cs=j2b n l:=by
 apply Array.ext_getElem?
 intro i
 by_cases hi:i<n
 · rw[hg i hi,j2p n l i h hi]
 · rw[Array.getElem?_eq_none (by omega),Array.getElem?_eq_none (by rw[j1X n l h];omega)]
theorem q9F(n:Nat)(l:List Int)(v:Int)(h:l.length<n):(j2b n l).setIfInBounds l.length (.int .u64 v)=j2b n (l++[v]):=by
 apply q20
 · simp;omega
 · rw[Array.size_setIfInBounds,j1X n l (by omega)]
 · intro i hi
   rw[Array.getElem?_setIfInBounds,j1X n l (by omega)]
   by_cases e:l.length=i
   · subst e;simp[h]
   · rw[if_neg e,j2p n l i (by omega) hi]
     congr 2
     by_cases hl:i<l.length
     · simp[List.getD,List.getElem?_append_left hl]
     · simp[List.getD,List.getElem?_eq_none (by omega:l.length≤i),List.getElem?_eq_none (by simp;omega:(l++[v]).length≤i)]
theorem j4b(n:Nat)(l:List Int)(v:Int)(k:Nat)(hk:l.length=k)(h:k<n):(j2b n l).setIfInBounds k (.int .u64 v)=j2b n (l++[v]):=by
 subst hk
 exact q9F n l v h
theorem j0v{P:Program}{fn:Func}{p q:Tmp}{ty:TypeId}(h:fn.results= #[.cell p ty, .tmp q])(tmps:Array Value)(w:World)(g:Nat)(t:TypeId)(cs:Array Value)(fr:Nat × Nat)(d:TypeDesc)
  (hp:tmps.getD p undef= .pointer (some ⟨g,0,none⟩)) (v:Value) (hv:tmps.getD q undef=v) (hg:w.heap[g]?=some (.cells cs t fr))
  (hu:P.underlying ty=some d) (hd:(match d with| .struct _| .array _ _=>true|_=>false)=true) (hi:(P.info? ty).map (·.size)=some cs.size):
  (results fn tmps).run P w= .ok (.tuple #[.agg cs,v]) w:=by
 have hp':tmps[p]?.getD undef= .pointer (some ⟨g,0,none⟩):=by simpa using hp
 have hv':tmps[q]?.getD undef=v:=by simpa using hv
 simp[results,h,hp',hv',asAddr,run_loadVar_row w g t ty cs fr d hg hu hd hi]
theorem j6q{P:Program}{fn:Func}{p p' q:Tmp}{ty:TypeId}(h:fn.results= #[.cell p ty, .cell p' ty, .tmp q])(tmps:Array Value)(w:World)(g g':Nat)(t:TypeId)(cs cs':Array Value)(fr:Nat × Nat)(d:TypeDesc)
  (hp:tmps.getD p undef= .pointer (some ⟨g,0,none⟩)) (hp':tmps.getD p' undef= .pointer (some ⟨g',0,none⟩)) (v:Value) (hv:tmps.getD q undef=v) (hg:w.heap[g]?=some (.cells cs t fr)) (hg':w.heap[g']?=some (.cells cs' t fr))
  (hu:P.underlying ty=some d) (hd:(match d with| .struct _| .array _ _=>true|_=>false)=true) (hi:(P.info? ty).map (·.size)=some cs.size) (hi':(P.info? ty).map (·.size)=some cs'.size):
  (results fn tmps).run P w= .ok (.tuple #[.agg cs, .agg cs',v]) w:=by
 have hp1:tmps[p]?.getD undef= .pointer (some ⟨g,0,none⟩):=by simpa using hp
 have hp2:tmps[p']?.getD undef= .pointer (some ⟨g',0,none⟩):=by simpa using hp'
 have hv':tmps[q]?.getD undef=v:=by simpa using hv
 simp[results,h,hp1,hp2,hv',asAddr,run_loadVar_row w g t ty cs fr d hg hu hd hi,run_loadVar_row w g' t ty cs' fr d hg' hu hd hi']
open Go.RowKit
theorem j0N(a:Addr)(n:Nat):(a.add n).block=a.block:=by unfold Addr.add;split<;>rfl
theorem q4R:(Tryz.prog.info? 5).map (fun i=>(i.zero,i.size,i.bytes))=some (some (.int .u8 0),1,1):=by kernel_rfl
theorem q7g:Tryz.prog.cellsOf 5=1:=by kernel_rfl
theorem q4x(m:Nat):madeCells #[.int .u8 0] m=j0d m []:=by
 apply j5E
 · simp
 · exact size_madeCells _ _
 · intro i hi
   have e:i % 1=0:=by omega
   simp[madeCells,hi,e]
theorem j8P(m:Nat)(hm:m≤140737488355328)(w:World):(Instr.makeSlice 100 (.int .i64 (m:Int)) (.int .i64 (m:Int))).run Tryz.prog w= .ok (.slice (some ⟨w.heap.size,0,none⟩) m m) (w.alloc (.cells (j0d m []) 5)):=by
 cases hq:Tryz.prog.info? 5 with
 |none=>have:=q4R;rw[hq]at this;cases this
 |some i=>
  have h:=q4R
  rw[hq]at h
  simp only[Option.map_some,Option.some.injEq,Prod.mk.injEq]at h
  obtain⟨h1,h2,h3⟩:=h
  have hr:=run_make (P:=Tryz.prog) w 100 5 i _ underlying100 hq h1 .i64 .i64 (m:Int) (m:Int) (by omega) (by omega) (by rw[h3];omega) (by omega)
  simp only[Int.toNat_natCast,h2,Nat.mul_one]at hr
  rw[←q4x]
  exact hr
def Bytes(w:World)(B:Nat)(A:Option Addr)(xs:List Int):Prop:=0<xs.length→ ∃ad,A=some ad∧ad.block<B∧ ∀j v,(xs.map u8v)[j]?=some v→w.cell? (ad.add j)=some v
theorem Bytes.nil(w:World)(B:Nat)(A:Option Addr):Bytes w B A []:=fun h=>absurd h (by decide)
theorem Bytes.below{w w':World}{B:Nat}{A:Option Addr}{xs:List Int}(h:Bytes w B A xs)(hb:Below B w w'):Bytes w' B A xs:=by
 intro hp
 obtain⟨ad,e,hlt,hc⟩:=h hp
 exact⟨ad,e,hlt,fun j v hv=>(hb.cell (by rw[j0N];exact hlt)).trans (hc j v hv)⟩
theorem Bytes.more{w:World}{B B':Nat}{A:Option Addr}{xs:List Int}(h:Bytes w B A xs)(hB:B≤B'):Bytes w B' A xs:=fun hp=>by
 obtain⟨ad,e,hlt,hc⟩:=h hp
 exact⟨ad,e,Nat.lt_of_lt_of_le hlt hB,hc⟩
theorem Bytes.up{w w':World}{A:Option Addr}{xs:List Int}(h:Bytes w w.heap.size A xs)(hb:Below w.heap.size w w'):Bytes w' w'.heap.size A xs:=(h.below hb).more hb.size
theorem Bytes.take{w:World}{B:Nat}{A:Option Addr}{xs:List Int}(h:Bytes w B A xs)(k:Nat):Bytes w B A (xs.take k):=by
 intro hp
 obtain⟨ad,e,hlt,hc⟩:=h (by simp at hp;omega)
 refine⟨ad,e,hlt,fun j v hv=>hc j v ?_⟩
 rw[List.map_take,List.getElem?_take]at hv
 split at hv
 · exact hv
 · cases hv
theorem Bytes.cell{w:World}{B:Nat}{A:Option Addr}{xs:List Int}(h:Bytes w B A xs)(j:Nat)(hj:j<xs.length): ∃ad,A=some ad∧w.cell? (ad.add j)=some (.int .u8 (xs.getD j 0)):=by
 obtain⟨ad,e,_,hc⟩:=h (by omega)
 refine⟨ad,e,hc j _ ?_⟩
 simp[List.getD,List.getElem?_eq_getElem hj,u8v]
def Parts(w:World)(B:Nat)(A:Option Addr)(xss:List (List Int)):Prop:=
  ∀(k:Nat)(xs:List Int),xss[k]?=some xs→ ∃(b o:Nat)(a:Option Addr)(c:Nat),A=some ⟨b,o,none⟩∧b<B∧w.cell? ⟨b,o+k,none⟩=some (.slice a xs.length c)∧Bytes w B a xs∧ ∀x∈xs,0≤x∧x≤255
theorem Parts.nil(w:World)(B:Nat)(A:Option Addr):Parts w B A []:=fun k xs h=>by simp at h
theorem Parts.below{w w':World}{B:Nat}{A:Option Addr}{xss:List (List Int)}(h:Parts w B A xss)(hb:Below B w w'):Parts w' B A xss:=by
 intro k xs hk
 obtain⟨b,o,a,c,e,hlt,hc,hx,hr⟩:=h k xs hk
 exact⟨b,o,a,c,e,hlt,(hb.cell (p:=⟨b,o+k,none⟩) hlt).trans hc,hx.below hb,hr⟩
theorem j6A (base:Nat) (v:Value) (n:Nat) (l:List Value) (w:World) (hown:w.ownsRow base 5 1 v n l) (A:Option Addr) (m c B:Nat) (ys:List Int) (hl:ys.length=m) (hy:Bytes w B A ys)
  (hs:n+m≤70368744177664) (hbase:base≤w.heap.size):
  ∃v' w',(Builtin.append_ #[100,100] 100 #[v, .slice A m c]).run Tryz.prog w= .ok v' w'∧w'.ownsRow base 5 1 v' (n+m) (l++ys.map u8v)∧w.grownBy w' v.ownBlock:=by
 cases hq:Tryz.prog.info? 5 with
 |none=>have:=q4R;rw[hq]at this;cases this
 | some i =>
  have h:=q4R
  rw[hq]at h
  simp only[Option.map_some,Option.some.injEq,Prod.mk.injEq]at h
  obtain⟨h1,h2,h3⟩:=h
  cases A with
  |none=>
   have hm:m=0:=by
     rcases Nat.eq_zero_or_pos m with h0|h0
     · exact h0
     · obtain⟨ad,e,_⟩:=hy (by omega)
       cases e
   subst hm
   obtain rfl:ys=[]:=List.eq_nil_of_length_eq_zero hl
   refine⟨v,w,?_,by simpa using hown,World.grownBy.refl w _⟩
   rcases hown.2 with ⟨rfl,rfl⟩|⟨g,cap,cur,rfl,_,_,hnc,_⟩
   · simp[Builtin.append_,run_underlying underlying100,sizeOf,typeInfo,hq,Builtin.lenOf,Builtin.firstCells]
   · simp[Builtin.append_,run_underlying underlying100,sizeOf,typeInfo,hq,Builtin.lenOf,Builtin.firstCells,hnc,storeCells]
  |some ad=>
   obtain ⟨v',w',hrun,hown',hg,_⟩:=run_append_own_at (P:=Tryz.prog) w base 100 100 5 i _ 1 1 underlying100 hq h1 h2 h3 rfl (by omega) v n l hown ad m c (ys.map u8v) (by simp[hl]) (fun j u hu=>by
       have hp:0<ys.length:=by
        rcases Nat.eq_zero_or_pos ys.length with h0|h0
        · obtain rfl:=List.eq_nil_of_length_eq_zero h0
          simp at hu
        · exact h0
       obtain⟨ad',e,_,hc⟩:=hy hp
       obtain rfl:=Option.some.inj e
       exact hc j u hu) (by intro u hu;obtain⟨z,_,rfl⟩:=List.mem_map.1 hu;rfl) (by unfold maxLen;omega) (by omega) hbase
   exact⟨v',w',hrun,hown',hg⟩
theorem wpList_append_run{P:Program}{ops:Array Oper}{rest:List Oper}{o:Oper}{a:Act}{w w':World}{Q:Exit→Act→World→Prop}{v y v':Value}{t:TypeId}(hgd:o.guard=none)(s x:Operand)
  (ho:o.op= .call {callee:= .builtin .append,args:= #[s,x],argTypes:= #[t,t]}) (hty:o.type=t) (hs:a.eval s=v) (hx:a.eval x=y)
  (hrun:(Builtin.append_ #[t,t] t #[v,y]).run P w= .ok v' w') (h:wpList P ops Q rest (a.put o.dst v') w'):wpList P ops Q (o::rest) a w:=
 wpList_plain hgd fun _ hK=>by
  unfold Oper.wp execOp
  simp only[ho,hty,resolve,invoke,builtin,Sem.run_bind,Sem.run_pure,Result.andThen_ok,List.map_toArray,List.map_cons,List.map_nil,hs,hx,hrun]
  exact hK _ _ h
theorem j1B{B:Nat}{a b:World}{row:Option Nat}(h:a.grownBy b row)(hr: ∀g,row=some g→B≤g)(hB:B≤a.heap.size):Below B a b:=
 ⟨h.os,h.tape,h.output,h.size,fun i hi=>h.block i (by omega) (fun e=>by have:=hr i e.symm;omega)⟩
def OwnB(w:World)(B:Nat)(v:Value)(xs:List Int):Prop:=w.ownsRow B 5 1 v xs.length (xs.map u8v)
theorem OwnB.nil(w:World)(B:Nat):OwnB w B (.slice none 0 0) []:=World.ownsRow_nil _ _ _ _
theorem OwnB.bytes{w:World}{B n c:Nat}{A:Option Addr}{xs:List Int}(h:OwnB w B (.slice A n c) xs):xs.length=n∧Bytes w w.heap.size A xs:=by
 rcases h.2 with ⟨e,e2⟩|⟨g,cap,cur,e,_,hg,_⟩
 · injection e with e1 e3 e4
   refine⟨by omega,fun hp=>by omega⟩
 · injection e with e1 e2 e3
   subst e1
   refine⟨e2.symm,fun hp=>⟨_,rfl,?_,fun j v hv=>h.cells (g:=g) rfl j v hv⟩⟩
   exact Row.lt (t:=5) hg
theorem OwnB.below{w w':World}{B:Nat}{v:Value}{xs:List Int}(h:OwnB w B v xs)(hb:Below w.heap.size w w'):OwnB w' B v xs:=by
 refine⟨h.1,?_⟩
 rcases h.2 with h0|⟨g,cap,cur,e,hg,hh,h1⟩
 · exact .inl h0
 · exact .inr ⟨g,cap,cur,e,hg,(hb.block g (Row.lt (t:=5) hh)).trans hh,h1⟩
theorem OwnB.append{w:World}{B:Nat}{v:Value}{xs:List Int}(h:OwnB w B v xs){A:Option Addr}{m c B':Nat}{ys:List Int}(hl:ys.length=m)(hy:Bytes w B' A ys)(hs:xs.length+m≤70368744177664)(hB:B≤w.heap.size):
  ∃v' w',(Builtin.append_ #[100,100] 100 #[v, .slice A m c]).run Tryz.prog w= .ok v' w'∧OwnB w' B v' (xs++ys)∧Below B w w':=by
 obtain⟨v',w',h1,h2,h3⟩:=j6A B v xs.length (xs.map u8v) w h A m c B' ys hl hy hs hB
 refine⟨v',w',h1,?_,j1B h3 (fun g hg=>(h.lt g hg).1) hB⟩
 unfold OwnB
 rw[List.length_append,hl,List.map_append]
 exact h2
theorem q82{base n:Nat}{v:Value}{l:List Value}{w:World}(h:w.ownsRow base 5 1 v n l): ∃A c,v= .slice A n c:=by
 rcases h.2 with ⟨rfl,rfl⟩|⟨g,cap,cur,rfl,_⟩
 · exact⟨none,0,rfl⟩
 · exact⟨_,cap,rfl⟩
theorem q7W{base n c:Nat}{A:Option Addr}{xs:List Int}{w:World}(h:w.ownsRow base 5 1 (.slice A n c) n (xs.map u8v)):Bytes w w.heap.size A xs:=by
 intro hp
 have hl:=h.1
 rcases h.2 with ⟨e,rfl⟩|⟨g,cap,cur,e,_,hg,_⟩
 · simp at hl
   rw[hl]at hp
   simp at hp
 · injection e with e1 e2 e3
   subst e1
   refine⟨_,rfl,?_,fun j v hv=>h.cells (g:=g) rfl j v hv⟩
   exact Row.lt (t:=5) hg
theorem j7G(xss:List (List Int))(k:Nat)(xs:List Int)(h:xss[k]?=some xs):(xss.take (k+1)).flatten=(xss.take k).flatten++xs:=by
 rw[List.take_add_one,h]
 simp
theorem q0s{w:World}{B g:Nat}{a:Option Addr}{c:Nat}{xs:List Int}(hg:g<B)(hc:w.cell? ⟨g,0,none⟩=some (.slice a xs.length c))(hx:Bytes w B a xs)(hr: ∀x∈xs,0≤x∧x≤255):Parts w B (some ⟨g,0,none⟩) [xs]:=by
 intro k ys hk
 rcases k with _|k
 · obtain rfl:xs=ys:=by simpa using hk
   exact⟨g,0,a,c,rfl,hg,hc,hx,hr⟩
 · simp at hk
theorem j7n{w:World}{B g:Nat}{a a':Option Addr}{c c':Nat}{xs ys:List Int}(hg:g<B)(hc:w.cell? ⟨g,0,none⟩=some (.slice a xs.length c))(hx:Bytes w B a xs)(hr: ∀x∈xs,0≤x∧x≤255)
   (hc':w.cell? ⟨g,1,none⟩=some (.slice a' ys.length c')) (hy:Bytes w B a' ys) (hr': ∀x∈ys,0≤x∧x≤255):Parts w B (some ⟨g,0,none⟩) [xs,ys]:=by
 intro k zs hk
 rcases k with _|_|k
 · obtain rfl:xs=zs:=by simpa using hk
   exact⟨g,0,a,c,rfl,hg,hc,hx,hr⟩
 · obtain rfl:ys=zs:=by simpa using hk
   exact⟨g,0,a',c',rfl,hg,hc',hy,hr'⟩
 · simp at hk
theorem Bytes.drop{w:World}{B g:Nat}{xs:List Int}(h:Bytes w B (some ⟨g,0,none⟩) xs)(k:Nat):Bytes w B (some ⟨g,k,none⟩) (xs.drop k):=by
 intro hp
 obtain⟨ad,e,hlt,hc⟩:=h (by simp at hp;omega)
 obtain rfl:=Option.some.inj e
 refine⟨_,rfl,hlt,fun j v hv=>?_⟩
 have:=hc (k+j) v (by rw[←hv,List.map_drop,List.getElem?_drop])
 rw[Addr.add_mid]at this ⊢
 rw[Nat.zero_add]at this
 exact this
theorem x1i:Tryz.prog.plainKey 5=true:=by kernel_rfl
theorem j7U(d:Nat)(xs ys:List Int)(hx:xs.length=32)(hy:ys.length=32)(w:World): ∀is:List Nat,(∀i∈is,i<32)→
  (Op.eqItems (d+1) 5 1 (j0d 32 xs) (j0d 32 ys) is).run Tryz.prog w= .ok (decide (∀i∈is,xs.getD i 0=ys.getD i 0)) w
 |[],_=>by simp[Op.eqItems]
 |i::is,h=>by
  have hi:=h i (by simp)
  have p1:=run_part_plain (P:=Tryz.prog) w x1i (j1U 32 xs (i*1) (by omega) (by omega))
  have p2:=run_part_plain (P:=Tryz.prog) w x1i (j1U 32 ys (i*1) (by omega) (by omega))
  have p3:=run_equalIn_int (P:=Tryz.prog) w d 5 .u8 .u8 (xs.getD (i*1) 0) (ys.getD (i*1) 0) underlying5
  have ih:=j7U d xs ys hx hy w is (fun j hj=>h j (by simp[hj]))
  rw[Nat.mul_one]at p1 p2 p3
  simp only[Op.eqItems,Sem.run_bind,Nat.mul_one,p1,p2,p3,Result.andThen_ok]
  by_cases e:xs.getD i 0=ys.getD i 0
  · have e':(xs.getD i 0==ys.getD i 0)=true:=by simpa using e
    rw[e']
    simp only[Bool.not_true,Bool.false_eq_true,if_false,ih,List.forall_mem_cons,e,true_and]
  · have e':(xs.getD i 0==ys.getD i 0)=false:=by simpa using e
    rw[e']
    simp only[Bool.not_false,if_true,Sem.run_pure,List.forall_mem_cons,e,false_and,decide_false]
def eqL(xs ys:List Int):Bool:=decide (xs=ys)
theorem j7f(xs ys:List Int)(hx:xs.length=32)(hy:ys.length=32):(∀i∈List.range 32,xs.getD i 0=ys.getD i 0) ↔xs=ys:=by
 constructor
 · intro h
   apply List.ext_getElem (by omega)
   intro i h1 h2
   have:=h i (by simp;omega)
   simpa [List.getD,List.getElem?_eq_getElem h1,List.getElem?_eq_getElem h2] using this
 · rintro rfl i _
   rfl
theorem j6y(xs ys:List Int)(hx:xs.length=32)(hy:ys.length=32)(w:World):(Op.equal 26 (.agg (j0d 32 xs)) (.agg (j0d 32 ys))).run Tryz.prog w= .ok (eqL xs ys) w:=by
 unfold Op.equal
 cases hq:Tryz.prog.info? 5 with
 |none=>have:=q4R;rw[hq]at this;cases this
 |some i=>
  have h:=run_equalIn_array (P:=Tryz.prog) w 9999 (j0d 32 xs) (j0d 32 ys) underlying26 hq
  rw[q7g,j7U 9998 xs ys hx hy w (List.range 32) (by simp)]at h
  have e:decide (∀i∈List.range 32,xs.getD i 0=ys.getD i 0)=eqL xs ys:=decide_eq_decide.2 (j7f xs ys hx hy)
  rw[e]at h
  exact h
def isIds(l:List (List Int)):Prop:= ∀x∈l,x.length=32∧ ∀b∈x,0≤b∧b≤255
def idv(x:List Int):Value:= .agg (j0d 32 x)
theorem isIds.take{l:List (List Int)}(h:isIds l)(k:Nat):isIds (l.take k):=fun x hx=>h x (List.mem_of_mem_take hx)
theorem isIds.drop{l:List (List Int)}(h:isIds l)(k:Nat):isIds (l.drop k):=fun x hx=>h x (List.mem_of_mem_drop hx)
theorem isIds.flat_len{l:List (List Int)}(h:isIds l):l.flatten.length=l.length*32:=by
 induction l with
 |nil=>rfl
 |cons x l ih=>
  rw[List.flatten_cons,List.length_append,(h x (List.mem_cons_self ..)).1,ih (fun y hy=>h y (List.mem_cons_of_mem _ hy)),List.length_cons]
  omega
theorem isIds.flat_get{l:List (List Int)}(h:isIds l): ∀(i j:Nat),i<l.length→j<32→l.flatten[i*32+j]?=(l.getD i [])[j]?:=by
 induction l with
 |nil=>intro i j hi;simp at hi
 | cons x l ih=>
  intro i j hi hj
  have hx:=(h x (List.mem_cons_self ..)).1
  rw[List.flatten_cons]
  cases i with
  |zero=>
   rw[Nat.zero_mul,Nat.zero_add,List.getElem?_append_left (by omega)]
   rfl
  |succ i=>
   rw[List.getElem?_append_right (by omega),hx,show (i+1)*32+j- 32=i*32+j by omega,ih (fun y hy=>h y (List.mem_cons_of_mem _ hy)) i j (by simpa using hi) hj]
   simp
theorem isIds.get{l:List (List Int)}(h:isIds l){i:Nat}(hi:i<l.length):(l.getD i []).length=32∧ ∀b∈l.getD i [],0≤b∧b≤255:=by
 rw[List.getD_eq_getElem?_getD,List.getElem?_eq_getElem hi]
 exact h _ (List.getElem_mem hi)
def IdsIn(w:World)(B:Nat)(A:Option Addr)(l:List (List Int)):Prop:=Bytes w B A l.flatten
theorem IdsIn.nil(w:World)(B:Nat)(A:Option Addr):IdsIn w B A []:=Bytes.nil _ _ _
theorem IdsIn.up{w w':World}{A:Option Addr}{l:List (List Int)}(h:IdsIn w w.heap.size A l)(hb:Below w.heap.size w w'):IdsIn w' w'.heap.size A l:=Bytes.up h hb
theorem IdsIn.below{w w':World}{B:Nat}{A:Option Addr}{l:List (List Int)}(h:IdsIn w B A l)(hb:Below B w w'):IdsIn w' B A l:=Bytes.below h hb
theorem x1O:(Tryz.prog.info? 26).map (fun i=>(i.size,i.bytes))=some (32,32):=by kernel_rfl
theorem j8l{w:World}{ad:Addr}{x:List Int}(hx:x.length=32)(h: ∀j,j<32→w.cell? (ad.add j)=some (.int .u8 (x.getD j 0))):(loadVar 26 ad).run Tryz.prog w= .ok (idv x) w:=by
 have hc:=run_loadCells_list (P:=Tryz.prog) w ad (x.map u8v) (fun j v hv=>by
  have hj:j<x.length:=by
   rcases Nat.lt_or_ge j x.length with h'|h'
   · exact h'
   · rw[List.getElem?_eq_none (by simpa using h')]at hv
     cases hv
  rw[h j (by omega)]
  rw[List.getElem?_map,List.getElem?_eq_getElem hj]at hv
  simp only[Option.map_some]at hv
  rw[←hv]
  simp[u8v,List.getD,List.getElem?_eq_getElem hj])
 rw[List.length_map,hx]at hc
 have ha:(x.map u8v).toArray=j0d 32 x:=by unfold j0d;rw[hx];simp
 rw[ha]at hc
 cases hq:Tryz.prog.info? 26 with
 |none=>have:=x1O;rw[hq]at this;cases this
 | some i=>
  have hs:=x1O
  rw[hq]at hs
  simp only[Option.map_some,Option.some.injEq,Prod.mk.injEq]at hs
  have hagg:(isAgg 26).run Tryz.prog w= .ok true w:=by
   simp[isAgg,run_underlying underlying26]
  simp[loadVar,hagg,sizeOf,typeInfo,hq,hs.1,hc,idv]
theorem IdsIn.load{w:World}{B:Nat}{A:Option Addr}{l:List (List Int)}(h:IdsIn w B A l)(hl:isIds l){i:Nat}(hi:i<l.length): ∃ad,A=some ad∧(loadVar 26 (ad.add (i*32))).run Tryz.prog w= .ok (idv (l.getD i [])) w:=by
 have hfl:=hl.flat_len
 obtain⟨ad,e,_,hc⟩:=h (by omega)
 refine⟨ad,e,j8l (hl.get hi).1 (fun j hj=>?_)⟩
 have h1:(ad.add (i*32)).add j=ad.add (i*32+j):=by
  unfold Addr.add
  by_cases h0:i*32=0
  · simp[h0]
  · by_cases h2:j=0
    · simp[h0,h2]
    · simp[h0,h2,Nat.add_assoc]
 rw[h1]
 refine hc (i*32+j) _ ?_
 rw[List.getElem?_map,hl.flat_get i j hi hj,List.getElem?_eq_getElem (by rw[(hl.get hi).1];exact hj)]
 simp only[Option.map_some,u8v,Option.some.injEq,Value.int.injEq,true_and]
 rw[List.getD_eq_getElem?_getD (l:=l.getD i []),List.getElem?_eq_getElem (by rw[(hl.get hi).1];exact hj)]
 rfl
open Go.ChangeShapes Go.WideShapes Go.ChangeAt Go.RowKit Go.Deep
theorem j5K:Tryz.prog.cellsOf 26=32:=by kernel_rfl
theorem j4W{H:Type}{enc:TypeId × Value→H}{W:World}{base:Nat}{spare:Nat→Bool}{held:Bool}{fuel:Nat}{cs:List Value}{x:DataW H × List MemPlace}(h:DataW.trod enc Tryz.prog W base spare held fuel 26 cs=some x):
   ∃xs:List Int,xs.length=32∧(∀b∈xs,0≤b∧b≤255)∧cs=xs.map u8v:=by
 obtain⟨ys,m,_,_,hlen,hl,hall⟩:=DataW.trod_array underlying26 h
 rw[j5K]at hlen
 have hc: ∀i,i<32→ ∃n:Int,cs[i]?=some (.int .u8 n)∧0≤n∧n≤255:=by
   intro i hi
   have h1:=hall i hi
   rw[List.getElem?_eq_getElem (by omega:i<ys.length)]at h1
   obtain⟨n,e,_,wf⟩:=DataW.trod_int underlying5 h1
   refine⟨n,?_,?_⟩
   · rw[q7g,Nat.mul_one]at e
     have hi':i<cs.length:=by omega
     simp only[List.drop_eq_getElem_cons hi',List.take_succ_cons,List.take_zero,List.cons.injEq,and_true]at e
     rw[List.getElem?_eq_getElem hi',e]
   · have:=bounds_u8 wf
     omega
 refine⟨cs.map intOf,by simp[hlen],?_,?_⟩
 · intro b hb
   obtain⟨u,hu,rfl⟩:=List.mem_map.1 hb
   obtain⟨i,hi,rfl⟩:=List.getElem_of_mem hu
   obtain⟨n,e,hn⟩:=hc i (by omega)
   rw[List.getElem?_eq_getElem hi]at e
   rw[Option.some.inj e]
   exact hn
 · apply List.ext_getElem?
   intro i
   by_cases hi:i<32
   · obtain⟨n,e,_⟩:=hc i hi
     rw[e,List.getElem?_map,List.getElem?_map,e]
     rfl
   · rw[List.getElem?_eq_none (by omega),List.getElem?_eq_none (by simp;omega)]
open Go
def q6d(x n:Int):Int:=bits BinOp.or IntKind.u32 (x/2^n.toNat) (x*2^ (32- n).toNat % 4294967296)
def x4L(e:Int):Int:=bits BinOp.xor IntKind.u32 (bits BinOp.xor IntKind.u32 (q6d e 6) (q6d e 11)) (q6d e 25)
def x4U(a:Int):Int:=bits BinOp.xor IntKind.u32 (bits BinOp.xor IntKind.u32 (q6d a 2) (q6d a 13)) (q6d a 22)
def chI(e f g:Int):Int:=bits BinOp.xor IntKind.u32 (bits BinOp.and IntKind.u32 e f) (bits BinOp.and IntKind.u32 (bits BinOp.xor IntKind.u32 IntKind.u32.max e) g)
def x4S(a b c:Int):Int:=bits BinOp.xor IntKind.u32 (bits BinOp.xor IntKind.u32 (bits BinOp.and IntKind.u32 a b) (bits BinOp.and IntKind.u32 a c)) (bits BinOp.and IntKind.u32 b c)
structure S8 where
  a:Int
  b:Int
  c:Int
  d:Int
  e:Int
  f:Int
  g:Int
  h:Int
def S8.step (s:S8) (k x:Int):S8:=
  { a:=(s.h+x4L s.e+chI s.e s.f s.g+k+x+(x4U s.a+x4S s.a s.b s.c)) % 4294967296
    b:=s.a,c:=s.b,d:=s.c
    e:=(s.d+(s.h+x4L s.e+chI s.e s.f s.g+k+x)) % 4294967296
    f:=s.e,g:=s.f,h:=s.g}
def S8.cells(s:S8):Array Value:= #[.int .u32 s.a, .int .u32 s.b, .int .u32 s.c, .int .u32 s.d, .int .u32 s.e, .int .u32 s.f, .int .u32 s.g, .int .u32 s.h]
def S8.add (s t:S8):S8:=
  { a:=(s.a+t.a) % 4294967296,b:=(s.b+t.b) % 4294967296,c:=(s.c+t.c) % 4294967296,d:=(s.d+t.d) % 4294967296
    e:=(s.e+t.e) % 4294967296,f:=(s.f+t.f) % 4294967296,g:=(s.g+t.g) % 4294967296,h:=(s.h+t.h) % 4294967296}
def x4m(x0 x1 x2 x3:Int):Int:=bits BinOp.or IntKind.u32 (bits BinOp.or IntKind.u32 (bits BinOp.or IntKind.u32 (x0*16777216) (x1*65536)) (x2*256)) x3
def q5A(n:Int):List Int:=[8*n/256/256/256/256/256/256/256,8*n/256/256/256/256/256/256,8*n/256/256/256/256/256 % 256,8*n/256/256/256/256 % 256,8*n/256/256/256 % 256,8*n/256/256 % 256,8*n/256 % 256,8*n % 256]
def q8l(xs:List Int)(k:Nat):Int:=x4m (xs.getD (4*k) 0) (xs.getD (4*k+1) 0) (xs.getD (4*k+2) 0) (xs.getD (4*k+3) 0)
def x3W(x:Int):Int:=bits BinOp.xor IntKind.u32 (bits BinOp.xor IntKind.u32 (q6d x 7) (q6d x 18)) (x/8)
def x4a(x:Int):Int:=bits BinOp.xor IntKind.u32 (bits BinOp.xor IntKind.u32 (q6d x 17) (q6d x 19)) (x/1024)
def x2F(l:List Int)(j:Nat):Int:=(l.getD j 0+l.getD (j+9) 0+x3W (l.getD (j+1) 0)+x4a (l.getD (j+14) 0)) % 4294967296
def j8M(xs:List Int):Nat→List Int
  |0=>[]
  |k+1=>j8M xs k++[q8l xs k]
def j26(xs:List Int):Nat→List Int
  |0=>j8M xs 16
  |j+1=>j26 xs j++[x2F (j26 xs j) j]
theorem j40(xs:List Int)(k:Nat):(j8M xs k).length=k:=by
 induction k with
 |zero=>rfl
 |succ k ih=>simp[j8M,ih]
theorem j5T(xs:List Int)(k:Nat):(j26 xs k).length=16+k:=by
 induction k with
 |zero=>simp[j26,j40]
 |succ k ih=>simp[j26,ih];omega
def roundNs:List Int:=[1116352408,1899447441,3049323471,3921009573,961987163,1508970993,2453635748,2870763221,3624381080,310598401,607225278,1426881987,1925078388,2162078206,2614888103,3248222580,3835390401,4022224774,264347078,604807628,770255983,1249150122,1555081692,1996064986,2554220882,2821834349,2952996808,3210313671,3336571891,3584528711,113926993,338241895,666307205,773529912,1294757372,1396182291,1695183700,1986661051,2177026350,2456956037,2730485921,2820302411,3259730800,3345764771,3516065817,3600352804,4094571909,275423344,430227734,506948616,659060556,883997877,958139571,1322822218,1537002063,1747873779,1955562222,2024104815,2227730452,2361852424,2428436474,2756734187,3204031479,3329325298]
def x1v(s:S8)(ws:List Int):Nat→S8
  |0=>s
  |k+1=>(x1v s ws k).step (roundNs.getD k 0) (ws.getD k 0)
def x3r(s:S8)(xs:List Int):S8:=s.add (x1v s (j26 xs 48) 64)
def x4p(n:Int):Value:= .int .u32 n
def j28(l:List Int):Array Value:=((l++List.replicate (64- l.length) 0).map x4p).toArray
theorem j2G(l:List Int)(h:l.length≤64):(j28 l).size=64:=by simp[j28];omega
theorem j9Q(l:List Int):(j28 l).all (·.oneCell')=true:=by
 simp only[j28,List.all_toArray,List.all_map,List.all_eq_true,Function.comp]
 exact fun _ _=>rfl
theorem j2K(l:List Int)(i:Nat)(h:l.length≤64)(hi:i<64):(j28 l)[i]?=some (.int .u32 (l.getD i 0)):=by
 unfold j28
 simp only[List.getElem?_toArray,List.getElem?_map]
 by_cases hl:i<l.length
 · rw[List.getElem?_append_left hl,List.getElem?_eq_getElem hl]
   simp[x4p,List.getD,List.getElem?_eq_getElem hl]
 · rw[List.getElem?_append_right (by omega),List.getElem?_replicate,if_pos (by omega)]
   simp[x4p,List.getD,List.getElem?_eq_none (by omega:l.length≤i)]
theorem q0c(l:List Int)(v:Int)(h:l.length<64):(j28 l).setIfInBounds l.length (.int .u32 v)=j28 (l++[v]):=by
 apply Array.ext_getElem?
 intro i
 rw[Array.getElem?_setIfInBounds]
 by_cases hi:i<64
 · rw[j2K (l++[v]) i (by simp;omega) hi,j2G l (by omega)]
   by_cases e:l.length=i
   · subst e;simp[h]
   · rw[if_neg e,j2K l i (by omega) hi]
     congr 2
     by_cases hl:i<l.length
     · simp[List.getD,List.getElem?_append_left hl]
     · simp[List.getD,List.getElem?_eq_none (by omega:l.length≤i),List.getElem?_eq_none (by simp;omega:(l++[v]).length≤i)]
 · have h2:(l++[v]).length≤64:=by simp;omega
   rw[if_neg (by omega),Array.getElem?_eq_none (by rw[j2G l (by omega)];omega),Array.getElem?_eq_none (by rw[j2G _ h2];omega)]
def q3j(x:Int):List Int:=[x/16777216 % 256,x/65536 % 256,x/256 % 256,x % 256]
def zero8:S8:=⟨0,0,0,0,0,0,0,0⟩
def S8.get(s:S8)(k:Nat):Int:=[s.a,s.b,s.c,s.d,s.e,s.f,s.g,s.h].getD k 0
theorem S8.cells_get(s:S8)(k:Nat)(h:k<8):s.cells[k]?=some (.int .u32 (s.get k)):=by
 rcases k with _|_|_|_|_|_|_|_|k
 all_goals first|rfl|omega
theorem S8.cells_size(s:S8):s.cells.size=8:=rfl
theorem S8.cells_one(s:S8):s.cells.all (·.oneCell')=true:=by simp[S8.cells,Value.oneCell']
def S8.addTo (s t:S8) (k:Nat):S8:=
  { a:=if 0<k then (s.a+t.a) % 4294967296 else s.a
    b:=if 1<k then (s.b+t.b) % 4294967296 else s.b
    c:=if 2<k then (s.c+t.c) % 4294967296 else s.c
    d:=if 3<k then (s.d+t.d) % 4294967296 else s.d
    e:=if 4<k then (s.e+t.e) % 4294967296 else s.e
    f:=if 5<k then (s.f+t.f) % 4294967296 else s.f
    g:=if 6<k then (s.g+t.g) % 4294967296 else s.g
    h:=if 7<k then (s.h+t.h) % 4294967296 else s.h}
theorem S8.addTo_get(s t:S8)(k:Nat)(h:k<8):(s.addTo t k).get k=s.get k:=by
 rcases k with _|_|_|_|_|_|_|_|k
 all_goals first|rfl|omega
theorem S8.addTo_put(s t:S8)(k:Nat)(h:k<8):(s.addTo t k).cells.setIfInBounds k (.int .u32 ((s.get k+t.get k) % 4294967296))=(s.addTo t (k+1)).cells:=by
 rcases k with _|_|_|_|_|_|_|_|k
 all_goals first|rfl|omega
def j3g(s:S8):Nat→List Int
  |0=>[]
  |k+1=>j3g s k++q3j (s.get k)
theorem j2y(s:S8)(k:Nat):(j3g s k).length=4*k:=by
 induction k with
 |zero=>rfl
 |succ k ih=>simp[j3g,ih,q3j];omega
theorem q5Q(s:S8)(k:Nat)(h:k<8):((((j0d 32 (j3g s k)).setIfInBounds (4*k) (.int .u8 (s.get k/16777216 % 256))).setIfInBounds (4*k+1) (.int .u8 (s.get k/65536 % 256))).setIfInBounds (4*k+2) (.int .u8 (s.get k/256 % 256))).setIfInBounds (4*k+3) (.int .u8 (s.get k % 256))=j0d 32 (j3g s (k+1)):=by
 have hl:=j2y s k
 rw[j3p 32 _ _ (4*k) hl (by omega),j3p 32 _ _ (4*k+1) (by simp[hl]) (by omega),j3p 32 _ _ (4*k+2) (by simp[hl]) (by omega),j3p 32 _ _ (4*k+3) (by simp[hl]) (by omega)]
 simp[j3g,q3j]
def firstW:S8:=⟨1779033703,3144134277,1013904242,2773480762,1359893119,2600822924,528734635,1541459225⟩
def x0t(p:List Int):Nat→S8
  |0=>firstW
  |k+1=>x3r (x0t p k) (p.drop (64*k))
theorem S8.addTo_all(s t:S8):s.addTo t 8=s.add t:=rfl
theorem q3V(x n:Int)(w:World)(h0:0≤n)(h1:n≤31):
  Calls Tryz.prog 222 #[.int .u32 x, .int .u64 n] w fun e w'=>e= .returned (.int .u32 (q6d x n))∧w=w':=by
 go_enter func222,ntmps222
 go_wp2
 go_ret
 exact⟨rfl,rfl⟩
theorem q7D(s:S8)(k x:Int)(w:World):
  Calls Tryz.prog 204 #[.agg s.cells, .int .u32 k, .int .u32 x] w fun r w'=>r= .returned (.agg (s.step k x).cells)∧Below w.heap.size w w':=by
 obtain⟨a,b,c,d,e,f,g,h⟩:=s
 unfold S8.cells
 go_enter func204,ntmps204
 go_wp2_with fail
 go_quiet (fail)
 go_wp2_with (go_at_call 222;refine(q3V _ _ _ (by omega) (by omega)).mono ?_;rintro e w' ⟨rfl,rfl⟩)
 go_returns
 refine⟨rfl,?_⟩
 repeat' (first|(with_reducible exact Below.refl _ _)|(with_reducible refine j2Z ?_ _)|(with_reducible refine Below.alloc ?_ ?_ _)|(with_reducible refine Below.setCell ?_ ?_ _)|go_size)
theorem x0K(b:Nat)(o:Nat)(c:Nat)(x0 x1 x2 x3:Int)(w:World)
  (g0:w.cell? ⟨b,o,none⟩=some (.int .u8 x0)) (g1:w.cell? ⟨b,o+1,none⟩=some (.int .u8 x1)) (g2:w.cell? ⟨b,o+2,none⟩=some (.int .u8 x2)) (g3:w.cell? ⟨b,o+3,none⟩=some (.int .u8 x3))
  (b00:0≤x0) (b01:x0≤255) (b10:0≤x1) (b11:x1≤255) (b20:0≤x2) (b21:x2≤255) (b30:0≤x3) (b31:x3≤255):
  Calls Tryz.prog 221 #[.slice (some ⟨b,o,none⟩) 4 c] w fun e w'=>e= .returned (.int .u32 (x4m x0 x1 x2 x3))∧ ∃n,w'=w.drewN n:=by
 go_enter func221,ntmps221
 go_wp2_with fail
 go_quiet (fail)
 go_wp2
 go_returns
 exact⟨rfl,nq,rfl⟩
theorem x2E(n:Int)(w:World)(h0:0≤n)(h1:n≤140737488355328):
  Calls Tryz.prog 202 #[.int .i64 n] w fun e w'=>e= .returned (.agg ((q5A n).map u8v).toArray)∧Below w.heap.size w w':=by
 go_enter func202,ntmps202
 go_wp2
 go_rounds 9
 go_returns
 exact⟨rfl,by go_grown⟩
theorem x1t:(Tryz.prog.info? 214).map (·.size)=some 64:=by kernel_rfl
theorem q5H (b o n c:Nat) (xs:List Int) (w:World) (hn:64≤n) (hnc:n≤c) (hm:c≤140737488355328) (hb:b<w.heap.size)
  (hx: ∀i,i<64→w.cell? ⟨b,o+i,none⟩=some (.int .u8 (xs.getD i 0))) (hr: ∀i,0≤xs.getD i 0∧xs.getD i 0≤255):
  Calls Tryz.prog 203 #[.slice (some ⟨b,o,none⟩) n c] w fun e w'=>e= .returned (.agg (j28 (j26 xs 48)))∧Below w.heap.size w w':=by
 have HX:=Lib.hid hx
 clear hx
 have HR:=Lib.hid hr
 clear hr
 go_enter func203,ntmps203
 go_wp2
 go_loopw [10] (fun i u=> ∃k:Nat,k≤16∧i= .int .i64 k∧Below w.heap.size w u∧u.heap.size=w.heap.size+2∧Row u w.heap.size 214 (j28 [])∧Row u (w.heap.size+1) 214 (j28 (j8M xs k))) (fun i _=>16- (intOf i).toNat)
 case atStart=>exact⟨0,by omega,rfl,by go_grown,by simp,(Row.new w 214 _).alloc _,Row.newAt (by simp) 214 _⟩
 case round=>
  obtain⟨k,hk,rfl,hbl,hsz,hr0,hr1⟩:=hrel
  have HZ:=Lib.hid hsz
  clear hsz
  by_cases hlt:k<16
  · have g0:=(hbl.cell (p:=⟨b,o+4*k,none⟩) hb).trans (HX.out (4*k) (by omega))
    have g1:=(hbl.cell (p:=⟨b,o+4*k+1,none⟩) hb).trans (HX.out (4*k+1) (by omega))
    have g2:=(hbl.cell (p:=⟨b,o+4*k+2,none⟩) hb).trans (HX.out (4*k+2) (by omega))
    have g3:=(hbl.cell (p:=⟨b,o+4*k+3,none⟩) hb).trans (HX.out (4*k+3) (by omega))
    have G0:=Lib.hid g0
    have G1:=Lib.hid g1
    have G2:=Lib.hid g2
    have G3:=Lib.hid g3
    clear g0 g1 g2 g3
    have c1:=(hr1.cell k).trans (j2K _ k (by rw[j40];omega) (by omega))
    have f1:=hr1.frozen k
    have HR0:=Lib.hid hr0
    have HR1:=Lib.hid hr1
    clear hr0 hr1
    go_wp2_with fail
    refine(x0K b (o+4*k) _ _ _ _ _ _ G0.out G1.out G2.out G3.out (HR.out _).1 (HR.out _).2 (HR.out _).1 (HR.out _).2 (HR.out _).1 (HR.out _).2 (HR.out _).1 (HR.out _).2).mono ?_
    rintro e w' ⟨rfl,nq,rfl⟩
    go_wp2
    go_roundw
    case rel=>exact⟨k+1,by omega,by go_num,(j2Z hbl _).setCell (by simp) _,by simpa using HZ.out,(HR0.out.drewN _).far (by simp) _,by
       have h:=(HR1.out.drewN nq).put k (.int .u32 (q8l xs k))
       have e:=q0c (j8M xs k) (q8l xs k) (by rw[j40];omega)
       rw[j40]at e
       rw[e]at h
       exact h⟩
    case measure=>simp[intOf];omega
  · obtain rfl:k=16:=by omega
    have HR0:=Lib.hid hr0
    have HR1:=Lib.hid hr1
    clear hr0 hr1
    go_wp2
    go_loopw [5] (fun i u=> ∃j:Nat,j≤48∧i= .int .i64 (j+16)∧Below w.heap.size w u∧u.heap.size=w.heap.size+2∧Row u w.heap.size 214 (j28 [])∧Row u (w.heap.size+1) 214 (j28 (j26 xs j))) (fun i _=>64- (intOf i).toNat)
    case atStart=>exact⟨0,by omega,rfl,hbl,HZ.out,HR0.out,HR1.out⟩
    case round=>
     clear hbl HZ HR0 HR1
     obtain⟨j,hj,rfl,hbl,hsz,hr0,hr1⟩:=hrel
     have HZ:=Lib.hid hsz
     clear hsz
     have hl:=j5T xs j
     by_cases hlt:j<48
     · have c0:=(hr1.cell j).trans (j2K _ j (by omega) (by omega))
       have c1:=(hr1.cell (j+1)).trans (j2K _ (j+1) (by omega) (by omega))
       have c9:=(hr1.cell (j+9)).trans (j2K _ (j+9) (by omega) (by omega))
       have c14:=(hr1.cell (j+14)).trans (j2K _ (j+14) (by omega) (by omega))
       have c16:=(hr1.cell (j+16)).trans (j2K _ (j+16) (by omega) (by omega))
       have f16:=hr1.frozen (j+16)
       have HL:=Lib.hid hl
       have HR0:=Lib.hid hr0
       have HR1:=Lib.hid hr1
       clear hr0 hr1 hl
       go_wp2_with fail
       go_quiet (fail)
       go_wp2_with (go_at_call 222;refine(q3V _ _ _ (by omega) (by omega)).mono ?_;rintro e w' ⟨rfl,rfl⟩)
       have s16:IntKind.i64.wrap ((j:Int)+16- 16)=(j:Int):=by rw[IntWalk.i64_in _ (by omega)];omega
       have s16':IntKind.i64.wrap (j:Int)=(j:Int):=by rw[IntWalk.i64_in _ (by omega)]
       have s7:IntKind.i64.wrap ((j:Int)+16- 7)=((j+9:Nat):Int):=by rw[IntWalk.i64_in _ (by omega)];omega
       have q0:j<64:=by omega
       have q9:j+9<64:=by omega
       have q0':(j:Int)<64:=by omega
       have q9':(j:Int)+9<64:=by omega
       have q9'':((j:Int)+9).toNat=j+9:=by omega
       have q99:0≤(j:Int)+9:=by omega
       have d0:(wr.drewN nq).cell? _=_:=c0
       have d9:(wr.drewN nq).cell? _=_:=c9
       have d16:(wr.drewN nq).cell? _=_:=c16
       have e16:(wr.drewN nq).frozen? _=_:=f16
       have HR1':Hid (Row (wr.drewN nq) (w.heap.size+1) 214 (j28 (j26 xs j))):=HR1
       have HR0':Hid (Row (wr.drewN nq) w.heap.size 214 (j28 [])):=HR0
       have hbl':=j2Z hbl nq
       have HZ':Hid ((wr.drewN nq).heap.size=w.heap.size+2):=HZ
       clear c0 c1 c9 c14 c16 f16 HR1 HR0 hbl HZ
       generalize wr.drewN nq=w2 at *
       go_still_tail 14,(by kernel_rfl)
       clear s16 s16' s7 q9''
       change wpList _ _ _ _ _ w2.drew
       go_wp2
       go_roundw
       case rel=>
        repeat apply Exists.intro
        refine⟨⟨j+1,by omega,by go_num,hbl'.drew.setCell (by simp) _,by simpa using HZ'.out,HR0'.out.drew.far (by simp) _,by
         have h:=HR1'.out.drew.put (j+16) (.int .u32 (x2F (j26 xs j) j))
         have e:=q0c (j26 xs j) (x2F (j26 xs j) j) (by rw[HL.out];omega)
         rw[HL.out,Nat.add_comm]at e
         rw[e]at h
         exact h⟩,rfl⟩
       case measure=>simp[intOf];omega
     · obtain rfl:j=48:=by omega
       have hcs:Hid ((Tryz.prog.info? 214).map (·.size)=some (j28 (j26 xs 48)).size∧(j28 []).size=(j28 (j26 xs 48)).size∧(j28 (j26 xs 48)).all (·.oneCell')=true):=
        Lib.hid ⟨by rw[j2G _ (by omega)];exact x1t,by rw[j2G (j26 xs 48) (by omega),j2G [] (by simp)],j9Q _⟩
       generalize hcsE:j28 (j26 xs 48)=cs at *
       have HE:=Lib.hid hcsE
       clear hcsE
       generalize j28 []=zs at *
       have R1:Hid (wr.heap[w.heap.size+1]?=some (.cells cs 214 (0,0))):=hr1
       have R0:Hid (wr.heap[w.heap.size]?=some (.cells zs 214 (0,0))):=hr0
       clear hr0 hr1 hl
       go_upto_region 14 with fail
       refine wp_region_lit ?_
       refine wpList_load_row (o:=⟨some 67,_,_,_,_,_⟩) rfl 214 (.tmp 3) rfl (w.heap.size+1) rfl 214 cs (0,0) _ R1.out underlying214 rfl hcs.out.1 ?_
       refine wpList_store_row rfl 214 (.tmp 2) (.tmp 67) rfl w.heap.size cs rfl rfl 214 zs R0.out hcs.out.1 hcs.out.2.1 hcs.out.2.2 ?_
       go_wp2_with ((with_reducible refine bodyPost_ret (v:= .agg cs) ?_ ?_ ?_);(exact results_cell_row (p:=2) (ty:=214) results203 _ _ w.heap.size 214 cs (0,0) _ rfl (setRow_heap _ _ zs cs 214 (0,0) R0.out) underlying214 rfl hcs.out.1);(rfl))
       exact⟨by rw[HE.out],j0G hbl (Nat.le_refl _) _⟩
theorem j5v(s:S8):(Tryz.prog.info? 180).map (·.size)=some s.cells.size:=by rw[s.cells_size];kernel_rfl
theorem x3l (s:S8) (b o n c:Nat) (xs:List Int) (w:World) (hn:64≤n) (hnc:n≤c) (hm:c≤140737488355328) (hb:b<w.heap.size)
   (hx: ∀i,i<64→w.cell? ⟨b,o+i,none⟩=some (.int .u8 (xs.getD i 0))) (hr: ∀i,0≤xs.getD i 0∧xs.getD i 0≤255)
   (h1:1<w.heap.size) (hk: ∀i,i<64→w.cell? ⟨1,i,none⟩=some (.int .u32 (roundNs.getD i 0))):
   Calls Tryz.prog 168 #[.agg s.cells, .slice (some ⟨b,o,none⟩) n c] w fun e w'=>e= .returned (.agg (x3r s xs).cells)∧Below w.heap.size w w':=by
 have HX:=Lib.hid hx
 clear hx
 have HR:=Lib.hid hr
 clear hr
 have HK:=Lib.hid hk
 clear hk
 go_enter func168,ntmps168
 go_wp2_with fail
 refine(q5H b o n c xs _ hn hnc hm ?_ ?_ HR.out).mono ?_
 · simp;omega
 · intro i hi
   rw[World.cell?_alloc_lt _ _ _ (by simp;omega),World.cell?_alloc_lt _ _ _ hb]
   exact HX.out i hi
 rintro e w1 ⟨rfl,hb1⟩
 have bw:Below w.heap.size w w1:=(((Below.refl _ _).alloc (Nat.le_refl _) _).alloc (by simp) _).trans (hb1.mono (by simp;omega))
 have sz:w.heap.size+2≤w1.heap.size:=by have:=hb1.size;simp at this;omega
 have r0:Hid (Row w1 w.heap.size 180 s.cells):=((Row.new w 180 _).alloc _).below hb1 (by simp;omega)
 have r1:Hid (Row w1 (w.heap.size+1) 180 zero8.cells):=(Row.newAt (by simp) 180 _).below hb1 (by simp)
 clear hb1
 have hcs:Hid ((Tryz.prog.info? 214).map (·.size)=some (j28 (j26 xs 48)).size∧64=(j28 (j26 xs 48)).size∧(j28 (j26 xs 48)).all (·.oneCell')=true∧ ∀i,i<64→(j28 (j26 xs 48))[i]?=some (.int .u32 ((j26 xs 48).getD i 0))):=
   Lib.hid ⟨by rw[j2G _ (by rw[j5T];omega)];exact x1t,by rw[j2G (j26 xs 48) (by rw[j5T];omega)],j9Q _,fun i hi=>j2K _ i (by rw[j5T];omega) hi⟩
 generalize hcsE:j28 (j26 xs 48)=cs at *
 clear hcsE
 have hrun:Hid (x3r s xs=s.add (x1v s (j26 xs 48) 64)):=rfl
 generalize j26 xs 48=ws at *
 have a0:Hid ((w1.alloc (.cells cs 214)).heap[w.heap.size]?=some (.cells s.cells 180 (0,0))):=r0.out.alloc _
 have a1:Hid (((w1.alloc (.cells cs 214)).alloc (.cells zero8.cells 180)).heap[w1.heap.size+1]?=some (.cells zero8.cells 180 (0,0))):=Row.newAt (by simp) 180 _
 go_wp2_with (first
   |((with_reducible refine wpList_store_row (o:=⟨none, .store 214 _ _,_,_,_,_⟩) ?_ 214 (.tmp 5) (.tmp 10) ?_ w1.heap.size cs ?_ ?_ 214 _ (heap_alloc_last w1 _) hcs.out.1 ?_ hcs.out.2.2.1 ?_);(rfl);(rfl);(rfl);(rfl);(exact hcs.out.2.1);rw[World.setRow_alloc_new])
   |((with_reducible refine wpList_load_row (o:=⟨some 11,_,_,_,_,_⟩) ?_ 180 (.tmp 2) ?_ w.heap.size ?_ 180 s.cells (0,0) _ a0.out underlying180 ?_ (j5v s) ?_);(rfl);(rfl);(rfl);(rfl))
   |((with_reducible refine wpList_store_row (o:=⟨none, .store 180 _ _,_,_,_,_⟩) ?_ 180 (.tmp 6) (.tmp 11) ?_ (w1.heap.size+1) s.cells ?_ ?_ 180 zero8.cells ?_ (j5v s) ?_ s.cells_one ?_);(rfl);(rfl);(rfl);(rfl);(exact a1.out);(rfl)))
 have z8:Hid (Row ((w1.alloc (.cells cs 214)).alloc (.cells zero8.cells 180)) (w1.heap.size+1) 180 zero8.cells):=a1
 have zc:Hid (Row (w1.alloc (.cells cs 214)) w1.heap.size 214 cs):=Row.new w1 214 cs
 go_loopw [12] (fun i u=> ∃k:Nat,k≤64∧i= .int .i64 k∧Below w.heap.size w u∧Hid (Row u w.heap.size 180 s.cells∧Row u (w.heap.size+1) 180 zero8.cells∧Row u w1.heap.size 214 cs∧Row u (w1.heap.size+1) 180 (x1v s ws k).cells)) (fun i _=>64- (intOf i).toNat)
 case atStart=>
   refine⟨0,by omega,rfl,j0G ((bw.alloc (by omega) _).alloc (by simp;omega) _) (by omega) _,?_,?_,?_,?_⟩
   · exact((r0.out.alloc _).alloc _).setRowFar (by omega)
   · exact((r1.out.alloc _).alloc _).setRowFar (by omega)
   · exact(zc.out.alloc _).setRowFar (by omega)
   · exact z8.out.setRow
 case round=>
   clear a0 a1 z8 zc r0 r1
   obtain⟨k,hk,rfl,hbl,hrows⟩:=hrel
   obtain⟨r0,r1,r2,r3⟩:=hrows.out
   by_cases hlt:k<64
   · have kk:wr.cell? ⟨1,k,none⟩=some (.int .u32 (roundNs.getD k 0)):=(hbl.cell (p:=⟨1,k,none⟩) h1).trans (HK.out k hlt)
     have wk:wr.cell? ⟨w1.heap.size,k,none⟩=some (.int .u32 (ws.getD k 0)):=(r2.cell k).trans (hcs.out.2.2.2 k hlt)
     have hst:Hid (x1v s ws (k+1)=(x1v s ws k).step (roundNs.getD k 0) (ws.getD k 0)):=rfl
     generalize roundNs.getD k 0=kv at *
     generalize ws.getD k 0=wv at *
     generalize x1v s ws k=st at *
     have e0:wr.cell? ⟨w1.heap.size+1,0,none⟩=some (.int .u32 st.a):=r3.cell 0
     have e1:wr.cell? ⟨w1.heap.size+1,1,none⟩=some (.int .u32 st.b):=r3.cell 1
     have e2:wr.cell? ⟨w1.heap.size+1,2,none⟩=some (.int .u32 st.c):=r3.cell 2
     have e3:wr.cell? ⟨w1.heap.size+1,3,none⟩=some (.int .u32 st.d):=r3.cell 3
     have e4:wr.cell? ⟨w1.heap.size+1,4,none⟩=some (.int .u32 st.e):=r3.cell 4
     have e5:wr.cell? ⟨w1.heap.size+1,5,none⟩=some (.int .u32 st.f):=r3.cell 5
     have e6:wr.cell? ⟨w1.heap.size+1,6,none⟩=some (.int .u32 st.g):=r3.cell 6
     have e7:wr.cell? ⟨w1.heap.size+1,7,none⟩=some (.int .u32 st.h):=r3.cell 7
     have R3:Hid (Row wr.drew (w1.heap.size+1) 180 st.cells):=r3
     have R2:Hid (Row wr.drew w1.heap.size 214 cs):=r2
     have R1:Hid (Row wr.drew (w.heap.size+1) 180 zero8.cells):=r1
     have R0:Hid (Row wr.drew w.heap.size 180 s.cells):=r0
     clear r0 r1 r2 r3 hrows
     have hl2:(k:Int)<64:=by omega
     go_wp2_with fail
     go_still_tail 7,(by kernel_rfl)
     change wpList _ _ _ _ _ wr.drew
     go_wp2_with fail
     change Calls Tryz.prog 204 #[Value.agg st.cells,Value.int IntKind.u32 kv,Value.int IntKind.u32 wv] _ _
     refine(q7D st kv wv _).mono ?_
     rintro e w3 ⟨rfl,hb3⟩
     have s3:w1.heap.size+2≤wr.drew.heap.size:=by have:=R3.out.lt;omega
     have Q3:Hid (w3.heap[w1.heap.size+1]?=some (.cells st.cells 180 (0,0))):=R3.out.below hb3 (by omega)
     have Q2:Hid (Row w3 w1.heap.size 214 cs):=R2.out.below hb3 (by omega)
     have Q1:Hid (Row w3 (w.heap.size+1) 180 zero8.cells):=R1.out.below hb3 (by omega)
     have Q0:Hid (Row w3 w.heap.size 180 s.cells):=R0.out.below hb3 (by omega)
     have bl3:Below w.heap.size w w3:=hbl.drew.trans (hb3.mono (by omega))
     clear hb3 e0 e1 e2 e3 e4 e5 e6 e7 kk wk
     generalize st.step kv wv=st2 at *
     go_wp2_with ((with_reducible refine wpList_store_row (o:=⟨none, .store 180 _ _,_,_,_,_⟩) ?_ 180 (.tmp 6) (.tmp 22) ?_ (w1.heap.size+1) st2.cells ?_ ?_ 180 st.cells Q3.out (j5v st2) ?_ st2.cells_one ?_);(rfl);(rfl);(rfl);(rfl);(rfl))
     go_roundw
     case rel=>
      refine⟨k+1,by omega,by go_num,j0G bl3 (by omega) _,Q0.out.setRowFar (by omega),Q1.out.setRowFar (by omega),Q2.out.setRowFar (by omega),?_⟩
      rw[hst.out]
      exact Row.setRow Q3.out
     case measure=>simp[intOf];omega
   · obtain rfl:k=64:=by omega
     generalize x1v s ws 64=tt at *
     obtain⟨r0,r1,r2,r3⟩:=hrows.out
     have R3:Hid (Row wr (w1.heap.size+1) 180 tt.cells):=r3
     have R1:Hid (Row wr (w.heap.size+1) 180 zero8.cells):=r1
     have R0:Hid (Row wr w.heap.size 180 s.cells):=r0
     clear r0 r1 r2 r3 hrows
     go_wp2_with fail
     go_loopw [24] (fun i u=> ∃k:Nat,k≤8∧i= .int .i64 k∧Below w.heap.size w u∧Hid (Row u w.heap.size 180 (s.addTo tt k).cells∧Row u (w.heap.size+1) 180 zero8.cells∧Row u (w1.heap.size+1) 180 tt.cells)) (fun i _=>8- (intOf i).toNat)
     case atStart=>exact⟨0,by omega,rfl,hbl,R0.out,R1.out,R3.out⟩
     case round=>
      clear R0 R1 R3 hbl
      obtain⟨k,hk,rfl,hbl,hrows⟩:=hrel
      obtain⟨r0,r1,r3⟩:=hrows.out
      by_cases hlt:k<8
      · have e0:wr.cell? ⟨w.heap.size,k,none⟩=some (.int .u32 (s.get k)):=by rw[r0.cell k,S8.cells_get _ k hlt,S8.addTo_get s tt k hlt]
        have e1:wr.cell? ⟨w1.heap.size+1,k,none⟩=some (.int .u32 (tt.get k)):=by rw[r3.cell k,S8.cells_get _ k hlt]
        have f0:=r0.frozen k
        have R0:Hid (Row wr w.heap.size 180 (s.addTo tt k).cells):=r0
        have R1:Hid (Row wr (w.heap.size+1) 180 zero8.cells):=r1
        have R3:Hid (Row wr (w1.heap.size+1) 180 tt.cells):=r3
        have HP:=Lib.hid (S8.addTo_put s tt k hlt)
        clear r0 r1 r3 hrows
        have hl2:(k:Int)<8:=by omega
        go_wp2_with fail
        go_still_tail 7,(by kernel_rfl)
        change wpList _ _ _ _ _ wr.drew
        go_wp2
        go_roundw
        case rel=>
         repeat apply Exists.intro
         refine⟨⟨k+1,by omega,by go_num,hbl.drew.setCell (Nat.le_refl _) _,?_,R1.out.drew.far (by simp) _,R3.out.drew.far (by simp;omega) _⟩,rfl⟩
         rw[←HP.out]
         exact R0.out.drew.put k _
        case measure=>simp[intOf];omega
      · obtain rfl:k=8:=by omega
        rw[S8.addTo_all]at r0
        have hfin:Hid (x3r s xs=s.add tt):=hrun
        generalize s.add tt=ss at *
        have R0:Hid (wr.heap[w.heap.size]?=some (.cells ss.cells 180 (0,0))):=r0
        have R1:Hid (wr.heap[w.heap.size+1]?=some (.cells zero8.cells 180 (0,0))):=r1
        clear r0 r1 r3 hrows
        go_wp2_with (first
         |((with_reducible refine wpList_load_row (o:=⟨some 36,_,_,_,_,_⟩) ?_ 180 (.tmp 2) ?_ w.heap.size ?_ 180 ss.cells (0,0) _ R0.out underlying180 ?_ (j5v ss) ?_);(rfl);(rfl);(rfl);(rfl))
         |((with_reducible refine wpList_store_row (o:=⟨none, .store 180 _ _,_,_,_,_⟩) ?_ 180 (.tmp 4) (.tmp 36) ?_ (w.heap.size+1) ss.cells ?_ ?_ 180 zero8.cells R1.out (j5v ss) ?_ ss.cells_one ?_);(rfl);(rfl);(rfl);(rfl);(rfl))
         |((with_reducible refine bodyPost_ret (v:= .agg ss.cells) ?_ ?_ ?_);(exact results_cell_row (p:=4) (ty:=180) results168 _ _ (w.heap.size+1) 180 ss.cells (0,0) _ rfl (setRow_heap _ _ zero8.cells ss.cells 180 (0,0) R1.out) underlying180 rfl (j5v ss));(rfl)))
        exact⟨by rw[hfin.out],j0G hbl (by omega) _⟩
theorem j08(cs:Array Value)(h:cs.size=32):(Tryz.prog.info? 26).map (·.size)=some cs.size:=by rw[h];kernel_rfl
theorem q1x(s:S8)(k:Nat)(h:k<8)(w:World):(Instr.index 180 (.agg s.cells) (.int .i64 (k:Int))).run Tryz.prog w= .ok (.int .u32 (s.get k)) w:=by
 rcases k with _|_|_|_|_|_|_|_|k
 all_goals first|omega|kernel_rfl
theorem x4i(s:S8)(w:World):
  Calls Tryz.prog 169 #[.agg s.cells] w fun e w'=>e= .returned (.agg (j0d 32 (j3g s 8)))∧Below w.heap.size w w':=by
 have a0:Hid ((w.alloc (.cells s.cells 180)).heap[w.heap.size]?=some (.cells s.cells 180 (0,0))):=heap_alloc_last w _
 have a1:Hid ((((w.alloc (.cells s.cells 180)).alloc (.cells (j0d 32 []) 26)).alloc (.cells (j0d 32 []) 26)).heap[w.heap.size]?=some (.cells s.cells 180 (0,0))):=((Row.new w 180 _).alloc _).alloc _
 go_enter func169,ntmps169
 go_wp2_with ((with_reducible refine wpList_load_row (o:=⟨some 6,_,_,_,_,_⟩) ?_ 180 (.tmp 1) ?_ w.heap.size ?_ 180 s.cells (0,0) _ ?_ underlying180 ?_ (j5v s) ?_);(rfl);(rfl);(rfl);(exact a1.out);(rfl))
 go_loopw [7] (fun i u=> ∃k:Nat,k≤8∧i= .int .i64 k∧Below w.heap.size w u∧Hid (Row u (w.heap.size+1) 26 (j0d 32 [])∧Row u (w.heap.size+1+1) 26 (j0d 32 (j3g s k)))) (fun i _=>8- (intOf i).toNat)
 case atStart=>exact⟨0,by omega,rfl,by go_grown,(Row.newAt (by simp) 26 _).alloc _,Row.newAt (by simp) 26 _⟩
 case round=>
  clear a0 a1
  obtain⟨k,hk,rfl,hbl,hrows⟩:=hrel
  obtain⟨r0,r1⟩:=hrows.out
  by_cases hlt:k<8
  · have hix:=q1x s k hlt
    have e0:=(r1.cell (4*k)).trans (j1U 32 _ (4*k) (by rw[j2y];omega) (by omega))
    have e1:=(r1.cell (4*k+1)).trans (j1U 32 _ (4*k+1) (by rw[j2y];omega) (by omega))
    have e2:=(r1.cell (4*k+2)).trans (j1U 32 _ (4*k+2) (by rw[j2y];omega) (by omega))
    have e3:=(r1.cell (4*k+3)).trans (j1U 32 _ (4*k+3) (by rw[j2y];omega) (by omega))
    have f0:=r1.frozen (4*k)
    have f1:=r1.frozen (4*k+1)
    have f2:=r1.frozen (4*k+2)
    have f3:=r1.frozen (4*k+3)
    have R0:=Lib.hid r0
    have R1:=Lib.hid r1
    have HP:=Lib.hid (q5Q s k hlt)
    clear r0 r1 hrows
    go_wp2
    go_roundw
    case rel=>
     refine⟨k+1,by omega,by go_num,(((hbl.setCell (by simp;omega) _).setCell (by simp;omega) _).setCell (by simp;omega) _).setCell (by simp;omega) _,(((R0.out.far (by simp) _).far (by simp) _).far (by simp) _).far (by simp) _,?_⟩
     rw[←HP.out]
     exact(((R1.out.put _ _).put _ _).put _ _).put _ _
    case measure=>simp[intOf];omega
  · obtain rfl:k=8:=by omega
    have hsz:Hid ((j0d 32 (j3g s 8)).size=32∧(j0d 32 []).size=(j0d 32 (j3g s 8)).size∧(j0d 32 (j3g s 8)).all (·.oneCell')=true):=
     Lib.hid ⟨j0c _ _ (by rw[j2y];omega),by rw[j0c 32 (j3g s 8) (by rw[j2y];omega),j0c 32 [] (by simp)],j0Q _ _⟩
    generalize hE:j0d 32 (j3g s 8)=cs at *
    have HE:=Lib.hid hE
    clear hE
    generalize j0d 32 []=zs at *
    have R0:Hid (wr.heap[w.heap.size+1]?=some (.cells zs 26 (0,0))):=r0
    have R1:Hid (wr.heap[w.heap.size+1+1]?=some (.cells cs 26 (0,0))):=r1
    clear r0 r1 hrows
    go_wp2_with (first
     |((with_reducible refine wpList_load_row (o:=⟨some 38,_,_,_,_,_⟩) ?_ 26 (.tmp 3) ?_ (w.heap.size+1+1) ?_ 26 cs (0,0) _ R1.out underlying26 ?_ (j08 cs hsz.out.1) ?_);(rfl);(rfl);(rfl);(rfl))
     |((with_reducible refine wpList_store_row (o:=⟨none, .store 26 _ _,_,_,_,_⟩) ?_ 26 (.tmp 2) (.tmp 38) ?_ (w.heap.size+1) cs ?_ ?_ 26 zs R0.out (j08 cs hsz.out.1) hsz.out.2.1 hsz.out.2.2 ?_);(rfl);(rfl);(rfl);(rfl))
     |((with_reducible refine bodyPost_ret (v:= .agg cs) ?_ ?_ ?_);(exact results_cell_row (p:=2) (ty:=26) results169 _ _ (w.heap.size+1) 26 cs (0,0) _ rfl (setRow_heap _ _ zs cs 26 (0,0) R0.out) underlying26 rfl (j08 cs hsz.out.1));(rfl)))
    exact⟨by rw[HE.out],j0G hbl (by omega) _⟩
def q55(xs:List Int)(m:Nat):List Int:=xs++[128]++List.replicate (m- 9- xs.length) 0++q5A xs.length
theorem j9c(n:Int):(q5A n).length=8:=rfl
theorem q9r(xs:List Int)(m:Nat)(h:xs.length+9≤m):(q55 xs m).length=m:=by simp[q55,j9c];omega
def j5l(n:Nat)(l:List Int):List Value:=(l++List.replicate (n- l.length) 0).map u8v
theorem j8p(n:Nat)(l:List Int):j0d n l=(j5l n l).toArray:=rfl
theorem j7Z(n:Nat)(l:List Int)(h:l.length≤n):(j5l n l).length=n:=by simp[j5l];omega
theorem q0f(m:Nat)(xs:List Int):splice (j5l m []) 0 (xs.map u8v)=j5l m xs:=by
 simp[splice,j5l,List.drop_replicate]
theorem q1N(m:Nat)(xs:List Int)(h:xs.length+9≤m):splice (j5l m (xs++[128])) (m- 8) ((q5A xs.length).map u8v)=j5l m (q55 xs m):=by
 have e1:m- 8+(q5A xs.length).length=m:=by rw[j9c];omega
 have e2:(j5l m (xs++[128])).take (m- 8)=(xs++[128]++List.replicate (m- 9- xs.length) 0).map u8v:=by
  unfold j5l
  rw[←List.map_take]
  congr 1
  rw[List.take_append]
  congr 1
  · exact List.take_of_length_le (by simp;omega)
  · rw[List.take_replicate]
    congr 1
    simp
    omega
 have e3:(j5l m (xs++[128])).drop m=[]:=List.drop_eq_nil_of_le (by rw[j7Z _ _ (by simp;omega)];omega)
 unfold splice
 rw[e2,List.length_map,e1,e3]
 simp[j5l,q55,j9c]
 omega
theorem x3y(cs:Array Value)(h:cs.size=8):(Tryz.prog.info? 212).map (·.size)=some cs.size:=by rw[h];kernel_rfl
theorem x1z:(Tryz.prog.info? 5).map (·.size)=some 1:=by kernel_rfl
theorem x2S(A:Option Addr)(n c:Nat)(xs:List Int)(w:World)(hl:xs.length=n)(hn:n≤70368744177664)(hx:Bytes w w.heap.size A xs):
   Calls Tryz.prog 167 #[.slice A n c] w fun e w'=>e= .returned (.slice (some ⟨w.heap.size,0,none⟩) ((n+72) /64*64) ((n+72) /64*64))∧Row w' w.heap.size 5 (j0d ((n+72) /64*64) (q55 xs ((n+72) /64*64)))∧Below w.heap.size w w':=by
 have HL:=Lib.hid hl
 have HX:=Lib.hid hx
 clear hl hx
 obtain⟨m,hm'⟩: ∃m:Nat,(n+72) /64*64=m:=⟨_,rfl⟩
 rw[hm']
 have hm:((n:Int)+1+8+64- 1) /64*64=m:=by omega
 have HM:=Lib.hid hm
 have m1:n+9≤m:=by omega
 have m2:m<n+73:=by omega
 clear hm hm'
 go_enter func167,ntmps167
 go_wp2_with fail
 rw[HM.out,j8P m (by omega)]
 have H0:Hid ((w.alloc (.cells (j0d m []) 5)).heap[w.heap.size]?=some (.cells (j5l m []).toArray 5 (0,0))):=Row.new w 5 (j0d m [])
 have HB:Hid (Below w.heap.size w (w.alloc (.cells (j0d m []) 5))):=Lib.hid ((Below.refl _ _).alloc (Nat.le_refl _) _)
 have HC:Hid (0<(xs.map u8v).length→some (⟨w.heap.size,0,none⟩:Addr)=some ⟨w.heap.size,0,none⟩∧ ∃ad,A=some ad∧ ∀j v,(xs.map u8v)[j]?=some v→(w.alloc (.cells (j0d m []) 5)).cell? (ad.add j)=some v):=by
   intro hp
   obtain⟨ad,e,_,hc⟩:=(HX.out.below HB.out) (by simpa using hp)
   exact⟨rfl,ad,e,hc⟩
 go_wp2_with ((with_reducible refine wpList_copy_splice (o:=⟨some 20,_,_,_,_,_⟩) ?_ (.tmp 18) (.tmp 19) 100 100 ?_ 5 underlying100 x1z _ A m m n c ?_ ?_ w.heap.size 0 (j5l m []) 5 H0.out (xs.map u8v) ?_ HC.out ?_ ?_ w.heap.size w HB.out ?_ ?_);(rfl);(rfl);(rfl);(rfl);(rw[List.length_map,HL.out];exact(Nat.min_eq_left (by omega)).symm);(rw[List.length_map,HL.out,j7Z m [] (by simp)];omega);(intro v hv;obtain⟨z,_,rfl⟩:=List.mem_map.1 hv;rfl);(exact Nat.le_refl _);intro w1 R1 b1;have r1:Row w1 w.heap.size 5 (j0d m xs):=(by rw[j8p,←q0f m xs];exact R1.out);have c1:=(r1.cell n).trans (j1U m xs n (by rw[HL.out];omega) (by omega));have f1:=r1.frozen n;have RR:=Lib.hid r1;have BB:=Lib.hid b1;clear r1 R1 H0 HB HC b1)
 have r2:Row (w1.setCell ⟨w.heap.size,n,none⟩ (.int .u8 128)) w.heap.size 5 (j0d m (xs++[128])):=by
   rw[←j3p m xs 128 n HL.out (by omega)]
   exact RR.out.put n _
 have b2:Below w.heap.size w (w1.setCell ⟨w.heap.size,n,none⟩ (.int .u8 128)):=BB.out.setCell (Nat.le_refl _) _
 clear c1 f1 RR BB
 generalize w1.setCell ⟨w.heap.size,n,none⟩ (.int .u8 128)=w2 at *
 refine(x2E (n:Int) w2 (by omega) (by omega)).mono ?_
 rintro e w3 ⟨rfl,hb3⟩
 have s2:=r2.lt
 have s3:=hb3.size
 have r3:Hid (Row w3 w.heap.size 5 (j0d m (xs++[128]))):=r2.below hb3 r2.lt
 have b3:Hid (Below w.heap.size w w3):=b2.trans (hb3.mono (by omega))
 clear hb3 r2 b2
 have hls:Hid (((q5A (n:Int)).map u8v).toArray.size=8):=rfl
 have hlo:Hid (((q5A (n:Int)).map u8v).toArray.all (·.oneCell')=true):=by
   show _=_
   simp[q5A,u8v,Value.oneCell']
 have hlc:Hid ((q5A (n:Int)).map u8v=(q5A (xs.length:Int)).map u8v):=by rw[HL.out];exact rfl
 generalize (q5A (n:Int)).map u8v=ll at *
 go_wp2_with (first
   |((with_reducible refine wpList_store_row (o:=⟨none, .store 212 _ _,_,_,_,_⟩) ?_ 212 (.tmp 6) (.tmp 27) ?_ w3.heap.size ll.toArray ?_ ?_ 212 _ (heap_alloc_last w3 _) (x3y _ hls.out) ?_ hlo.out ?_);(rfl);(rfl);(rfl);(rfl);(rw[hls.out];rfl);rw[World.setRow_alloc_new])
   |fail)
 have R4:Hid (Row (w3.alloc (.cells ll.toArray 212)) w.heap.size 5 (j0d m (xs++[128]))):=r3.out.alloc _
 have R5:Hid (Row (w3.alloc (.cells ll.toArray 212)) w3.heap.size 212 ll.toArray):=Row.new _ _ _
 have b4:Hid (Below w.heap.size w (w3.alloc (.cells ll.toArray 212))):=Lib.hid (b3.out.alloc (by omega) _)
 clear r3 b3
 generalize w3.alloc (.cells ll.toArray 212)=w4 at *
 have s8:IntKind.i64.wrap ((m:Int) - 8)=((m- 8:Nat):Int):=by rw[IntWalk.i64_in _ (by omega)];omega
 have s8a:m- 8≤m:=by omega
 have s8b:((m- 8:Nat):Int)≤(m:Int):=by omega
 have s8c: ¬(m=m- 8):=by omega
 have s8d:m- (m- 8)=8:=by omega
 go_still_tail 5,(by kernel_rfl)
 clear s8 s8a s8b s8c s8d
 change wpList _ _ _ _ _ w4.drew
 refine wpList_copy_splice (o:=⟨some 33,_,_,_,_,_⟩) rfl (.tmp 31) (.tmp 32) 100 100 rfl 5 underlying100 x1z _ _ 8 8 8 8 rfl rfl w.heap.size (m- 8) (j5l m (xs++[128])) 5 R4.out.drew ll (by have:=hls.out;simpa using this) ?_ (by rw[j7Z _ _ (by rw[List.length_append,HL.out];simp;omega)];have:=hls.out;simp at this;omega) (by have:=hlo.out;simpa using this) w.heap.size w b4.out.drew (Nat.le_refl _) ?_
 · intro _
   refine⟨rfl,⟨w3.heap.size,0,none⟩,rfl,fun j v hv=>?_⟩
   rw[Addr.add_mid,Nat.zero_add,R5.out.drew.cell j]
   simpa using hv
 intro w5 R6 b5
 have R7:Hid (Row w5 w.heap.size 5 (j0d m (q55 xs m))):=by
   show Row _ _ _ _
   rw[j8p,←q1N m xs (by rw[HL.out];omega),←hlc.out]
   exact R6.out
 clear R6 R4 R5
 go_wp2
 go_ret
 exact⟨rfl,R7.out,b5⟩
structure Tables(w:World):Prop where
  words: ∀i,i<8→w.cell? ⟨0,i,none⟩=some (.int .u32 (firstW.get i))
  rounds: ∀i,i<64→w.cell? ⟨1,i,none⟩=some (.int .u32 (roundNs.getD i 0))
  there:1<w.heap.size
theorem Tables.below{w w':World}(h:Tables w)(hb:Below w.heap.size w w'):Tables w':=
 ⟨fun i hi=>(hb.cell (p:=⟨0,i,none⟩) (by have:=h.there;simp;omega)).trans (h.words i hi),fun i hi=>(hb.cell (p:=⟨1,i,none⟩) h.there).trans (h.rounds i hi),Nat.lt_of_lt_of_le h.there hb.size⟩
theorem q4I(xs:List Int)(m:Nat)(hn:xs.length≤70368744177664)(hr: ∀x∈xs,0≤x∧x≤255): ∀x∈q55 xs m,0≤x∧x≤255:=by
 intro x hx
 simp only[q55,List.mem_append,List.mem_replicate,q5A,List.mem_cons,List.not_mem_nil,or_false]at hx
 rcases hx with ((hx|hx)|hx)|hx
 · exact hr x hx
 · omega
 · omega
 · omega
theorem q4O(l:List Int)(h: ∀x∈l,0≤x∧x≤255)(i:Nat):0≤l.getD i 0∧l.getD i 0≤255:=by
 by_cases hi:i<l.length
 · have e:l.getD i 0=l[i]:=by simp[List.getD,List.getElem?_eq_getElem hi]
   rw[e]
   exact h _ (List.getElem_mem hi)
 · have e:l.getD i 0=0:=by simp[List.getD,List.getElem?_eq_none (by omega:l.length≤i)]
   rw[e]
   omega
def j4x(xs:List Int):List Int:=j3g (x0t (q55 xs ((xs.length+72) /64*64)) ((xs.length+72) /64)) 8
theorem q7J(A:Option Addr)(n c:Nat)(xs:List Int)(w:World)(hl:xs.length=n)(hn:n≤70368744177664)(hx:Bytes w w.heap.size A xs)(hr: ∀x∈xs,0≤x∧x≤255)(ht:Tables w):
   Calls Tryz.prog 110 #[.slice A n c] w fun e w'=>e= .returned (.agg (j0d 32 (j4x xs)))∧Below w.heap.size w w':=by
 have HL:=Lib.hid hl
 have hsum:Hid (j4x xs=j3g (x0t (q55 xs ((n+72) /64*64)) ((n+72) /64)) 8):=by show _=_;rw[←hl];rfl
 have HP:=Lib.hid (q4I xs ((n+72) /64*64) (by omega) hr)
 have HQ:=Lib.hid (q9r xs ((n+72) /64*64) (by omega))
 have HB0:=Lib.hid (((Below.refl w.heap.size w).alloc (Nat.le_refl _) (.cells (j0d 32 []) 26)))
 have HX:=Lib.hid (hx.below HB0.out)
 clear hx hr hl
 go_enter func110,ntmps110
 go_wp2_with fail
 refine(x2S A n c xs _ HL.out hn (fun h=>?_)).mono ?_
 · obtain⟨ad,e,hlt,hc⟩:=HX.out h
   exact⟨ad,e,by simp;omega,hc⟩
 rintro e w1 ⟨rfl,r1,b1⟩
 rw[World.size_alloc]at r1 b1
 have q1:(n+72) /64≤1099511627778:=by omega
 generalize q55 xs ((n+72) /64*64)=pp at *
 generalize (n+72) /64=q at *
 have bw:Below w.heap.size w w1:=HB0.out.trans (b1.mono (by omega))
 have t1:=ht.below bw
 have rz:Hid (Row w1 w.heap.size 26 (j0d 32 [])):=(Row.new w 26 _).below b1 (by omega)
 have c0:=t1.words 0 (by omega)
 have c1:=t1.words 1 (by omega)
 have c2:=t1.words 2 (by omega)
 have c3:=t1.words 3 (by omega)
 have c4:=t1.words 4 (by omega)
 have c5:=t1.words 5 (by omega)
 have c6:=t1.words 6 (by omega)
 have c7:=t1.words 7 (by omega)
 have R1:=Lib.hid r1
 clear r1 HB0 HX
 go_wp2_with fail
 clear c0 c1 c2 c3 c4 c5 c6 c7
 have s1:=R1.out.lt
 go_loopw [12] (fun i u=> ∃k:Nat,k≤q∧i= .int .i64 k∧Below w.heap.size w u∧Hid (Row u w.heap.size 26 (j0d 32 [])∧Row u (w.heap.size+1) 5 (j0d (q*64) pp)∧Row u w1.heap.size 180 (x0t pp k).cells)) (fun i _=>q- (intOf i).toNat)
 case atStart=>exact⟨0,by omega,rfl,bw.alloc (by omega) _,rz.out.alloc _,R1.out.alloc _,Row.new w1 180 _⟩
 case round=>
   obtain⟨k,hk,rfl,hbl,hrows⟩:=hrel
   obtain⟨r0,r1,r2⟩:=hrows.out
   by_cases hlt:k<q
   · have hst:Hid (x0t pp (k+1)=x3r (x0t pp k) (pp.drop (64*k))):=rfl
     generalize x0t pp k=st at *
     have e0:wr.cell? ⟨w1.heap.size,0,none⟩=some (.int .u32 st.a):=r2.cell 0
     have e1:wr.cell? ⟨w1.heap.size,1,none⟩=some (.int .u32 st.b):=r2.cell 1
     have e2:wr.cell? ⟨w1.heap.size,2,none⟩=some (.int .u32 st.c):=r2.cell 2
     have e3:wr.cell? ⟨w1.heap.size,3,none⟩=some (.int .u32 st.d):=r2.cell 3
     have e4:wr.cell? ⟨w1.heap.size,4,none⟩=some (.int .u32 st.e):=r2.cell 4
     have e5:wr.cell? ⟨w1.heap.size,5,none⟩=some (.int .u32 st.f):=r2.cell 5
     have e6:wr.cell? ⟨w1.heap.size,6,none⟩=some (.int .u32 st.g):=r2.cell 6
     have e7:wr.cell? ⟨w1.heap.size,7,none⟩=some (.int .u32 st.h):=r2.cell 7
     have R0:Hid (Row wr.drew w.heap.size 26 (j0d 32 [])):=r0
     have R1':Hid (Row wr.drew (w.heap.size+1) 5 (j0d (q*64) pp)):=r1
     have R2:Hid (Row wr.drew w1.heap.size 180 st.cells):=r2
     clear r0 r1 r2 hrows
     have hl2:(k:Int)<(q:Int):=by omega
     have a1:IntKind.i64.wrap ((k:Int)*64)=(k:Int)*64:=IntWalk.i64_in _ (by omega)
     have a2:IntKind.i64.wrap ((k:Int)+1)=(k:Int)+1:=IntWalk.i64_in _ (by omega)
     have a3:IntKind.i64.wrap (((k:Int)+1)*64)=((k:Int)+1)*64:=IntWalk.i64_in _ (by omega)
     have a4:(((k:Int)+1)*64).toNat=(k+1)*64:=by omega
     have a5:((k:Int)*64).toNat=k*64:=by omega
     have a6:0≤(k:Int)*64:=by omega
     have a7:(k:Int)*64≤((k:Int)+1)*64:=by omega
     have a8:((k:Int)+1)*64≤(q:Int)*64:=by omega
     have a9: ¬(q*64=k*64):=by omega
     have aa:(k+1)*64- k*64=64:=by omega
     have ab:0≤((k:Int)+1)*64:=by omega
     have ac:(k:Int)+1≤(q:Int):=by omega
     have ad:(k:Int)≤(k:Int)+1:=by omega
     go_wp2_with fail
     go_still_tail 8,(by kernel_rfl)
     clear a1 a2 a3 a4 a5 a6 a7 a8 a9 aa ab ac ad
     change wpList _ _ _ _ _ wr.drew
     go_wp2_with fail
     change Calls Tryz.prog 168 #[Value.agg st.cells,Value.slice (some ⟨w.heap.size+1,k*64,none⟩) 64 (q*64- k*64)] _ _
     refine(x3l st (w.heap.size+1) (k*64) 64 (q*64- k*64) (pp.drop (64*k)) _ (by omega) (by omega) (by omega) R1'.out.lt ?_ ?_ ?_ ?_).mono ?_
     · intro i hi
       rw[R1'.out.cell,j1U _ _ _ (by rw[HQ.out];omega) (by omega)]
       simp[List.getD,List.getElem?_drop,Nat.mul_comm]
     · exact q4O _ (fun x hx=>HP.out x (List.mem_of_mem_drop hx))
     · exact Nat.lt_of_lt_of_le ht.there hbl.size
     · exact(ht.below hbl).rounds
     rintro e w3 ⟨rfl,hb3⟩
     have Q2:Hid (w3.heap[w1.heap.size]?=some (.cells st.cells 180 (0,0))):=R2.out.below hb3 R2.out.lt
     have Q1:Hid (Row w3 (w.heap.size+1) 5 (j0d (q*64) pp)):=R1'.out.below hb3 R1'.out.lt
     have Q0:Hid (Row w3 w.heap.size 26 (j0d 32 [])):=R0.out.below hb3 R0.out.lt
     have bl3:Below w.heap.size w w3:=hbl.drew.trans (hb3.mono hbl.size)
     clear hb3 e0 e1 e2 e3 e4 e5 e6 e7
     generalize x3r st (pp.drop (64*k))=st2 at *
     go_wp2_with ((with_reducible refine wpList_store_row (o:=⟨none, .store 180 _ _,_,_,_,_⟩) ?_ 180 (.tmp 4) (.tmp 23) ?_ w1.heap.size st2.cells ?_ ?_ 180 st.cells Q2.out (j5v st2) ?_ st2.cells_one ?_);(rfl);(rfl);(rfl);(rfl);(rfl))
     go_roundw
     case rel=>
       refine⟨k+1,by omega,by go_num,j0G bl3 (by omega) _,Q0.out.setRowFar (by omega),Q1.out.setRowFar (by omega),?_⟩
       rw[hst.out]
       exact Row.setRow Q2.out
     case measure=>simp[intOf];omega
   · obtain rfl:k=q:=by omega
     have hfin:Hid (j4x xs=j3g (x0t pp k) 8):=hsum
     generalize x0t pp k=st at *
     have Z2:Hid (wr.heap[w1.heap.size]?=some (.cells st.cells 180 (0,0))):=r2
     have Z0:Hid (Row wr w.heap.size 26 (j0d 32 [])):=r0
     clear r0 r1 r2 hrows
     go_wp2_with ((with_reducible refine wpList_load_row (o:=⟨some 25,_,_,_,_,_⟩) ?_ 180 (.tmp 4) ?_ w1.heap.size ?_ 180 st.cells (0,0) _ Z2.out underlying180 ?_ (j5v st) ?_);(rfl);(rfl);(rfl);(rfl))
     refine(x4i st wr).mono ?_
     rintro e w3 ⟨rfl,hb3⟩
     have hsz:Hid ((j0d 32 (j3g st 8)).size=32∧(j0d 32 []).size=(j0d 32 (j3g st 8)).size∧(j0d 32 (j3g st 8)).all (·.oneCell')=true):=
       Lib.hid ⟨j0c _ _ (by rw[j2y];omega),by rw[j0c 32 (j3g st 8) (by rw[j2y];omega),j0c 32 [] (by simp)],j0Q _ _⟩
     have Q0:Hid (w3.heap[w.heap.size]?=some (.cells (j0d 32 []) 26 (0,0))):=Z0.out.below hb3 Z0.out.lt
     have bl3:Below w.heap.size w w3:=hbl.trans (hb3.mono hbl.size)
     clear hb3 Z0 Z2
     have HF:Hid (j0d 32 (j4x xs)=j0d 32 (j3g st 8)):=by show _=_;rw[hfin.out]
     generalize j0d 32 (j3g st 8)=cs at *
     generalize j0d 32 []=zs at *
     go_wp2_with (first
       |((with_reducible refine wpList_store_row (o:=⟨none, .store 26 _ _,_,_,_,_⟩) ?_ 26 (.tmp 2) (.tmp 26) ?_ w.heap.size cs ?_ ?_ 26 zs Q0.out (j08 cs hsz.out.1) hsz.out.2.1 hsz.out.2.2 ?_);(rfl);(rfl);(rfl);(rfl))
       |((with_reducible refine bodyPost_ret (v:= .agg cs) ?_ ?_ ?_);(exact results_cell_row (p:=2) (ty:=26) results110 _ _ w.heap.size 26 cs (0,0) _ rfl (setRow_heap _ _ zs cs 26 (0,0) Q0.out) underlying26 rfl (j08 cs hsz.out.1));(rfl)))
     exact⟨by rw[HF.out],j0G bl3 (Nat.le_refl _) _⟩
theorem j1V(xs:List Int):(j4x xs).length=32:=by unfold j4x;rw[j2y]
theorem x1s:Tryz.prog.globalNamed "stepladder/sha.firstWords" =some 0:=by kernel_rfl
theorem q5x:(Tryz.prog.globals[0]?).map (·.type)=some 180:=by kernel_rfl
theorem q7G:Tryz.prog.globalNamed "stepladder/sha.roundNumbers" =some 1:=by kernel_rfl
theorem q4u:(Tryz.prog.globals[1]?).map (·.type)=some 214:=by kernel_rfl
theorem x18:Tryz.prog.cellsOf 180=8:=by kernel_rfl
theorem x3b:Tryz.prog.cellsOf 214=64:=by kernel_rfl
theorem q5J:Tryz.prog.cellsOf 27=1:=by kernel_rfl
def q9p:List (String × DataW Unit):=[("stepladder/sha.firstWords",Rows.laid_stepladder_sha_firstWords),("stepladder/sha.roundNumbers",Rows.laid_stepladder_sha_roundNumbers)]
theorem j8g{W:World}(h:laidMetH Tryz.prog q9p W):Tables W:=by
 have h1:Lib.TabIs Tryz.prog W "stepladder/sha.firstWords" .u32 [1779033703,3144134277,1013904242,2773480762,1359893119,2600822924,528734635,1541459225]:=
  Lib.tabIs_of_head (rest:=[("stepladder/sha.roundNumbers",Rows.laid_stepladder_sha_roundNumbers)]) x1s q5x underlying180 underlying27 q5J x18 h
 have h2:Lib.TabIs Tryz.prog W "stepladder/sha.roundNumbers" .u32 roundNs:=
  Lib.tabIs_of_head (rest:=[]) q7G q4u underlying214 underlying27 q5J x3b (h.filter (fun x=>x.1== "stepladder/sha.roundNumbers"))
 refine⟨fun i hi=>h1.cell x1s i hi,fun i hi=>h2.cell q7G i hi,?_⟩
 have:=h2.cell q7G 0 (by decide)
 rcases Nat.lt_or_ge 1 W.heap.size with hl|hl
 · exact hl
 · simp[World.cell?,Array.getElem?_eq_none hl]at this
def q08(cs:Array Value):Obj→Obj
  | .cells _ t frozen=> .cells cs t frozen
  |o=>o
noncomputable def laidWorld (os:Os):World:=
  {World.holding Tryz.prog os ⟨#[],#[],[]⟩with heap:=((World.holding Tryz.prog os ⟨#[],#[],[]⟩).heap.modify 0 (q08 firstW.cells)).modify 1 (q08 (roundNs.map x4p).toArray)}
structure EnvX(w u:World)(l:List (Nat × Obj)):Prop where
  bel:Below w.heap.size w u
  box: ∀g o,(g,o)∈l→u.heap[g]?=some o
theorem EnvX.lt{w u:World}{l:List (Nat × Obj)}(h:EnvX w u l){g:Nat}{o:Obj}(hm:(g,o)∈l):g<u.heap.size:=by
 have h1:=h.box g o hm
 rcases Nat.lt_or_ge g u.heap.size with h2|h2
 · exact h2
 · rw[Array.getElem?_eq_none h2]at h1
   cases h1
theorem EnvX.start(w:World):EnvX w w []:=⟨Below.refl _ _,fun _ _ h=>by cases h⟩
theorem EnvX.below{w u v:World}{l:List (Nat × Obj)}(h:EnvX w u l)(hb:Below u.heap.size u v):EnvX w v l:=
 ⟨h.bel.trans (hb.mono h.bel.size),fun g o hm=>(hb.block g (h.lt hm)).trans (h.box g o hm)⟩
theorem EnvX.drew{w u:World}{l:List (Nat × Obj)}(h:EnvX w u l):EnvX w u.drew l:=⟨h.bel.drew,h.box⟩
theorem EnvX.new{w u:World}{l:List (Nat × Obj)}(h:EnvX w u l)(o:Obj):EnvX w (u.alloc o) ((u.heap.size,o)::l):=by
 refine⟨h.bel.alloc h.bel.size _,fun g o' hm=>?_⟩
 rcases List.mem_cons.1 hm with e|e
 · cases e
   exact heap_alloc_new u o
 · exact(Below.heap_alloc u o g (h.lt e)).trans (h.box g o' e)
theorem EnvX.two{w u:World}{l:List (Nat × Obj)}(h:EnvX w u l)(o o':Obj):EnvX w ((u.alloc o).alloc o') ((u.heap.size+1,o')::(u.heap.size,o)::l):=by
 have h1:=(h.new o).new o'
 rwa[World.size_alloc]at h1
theorem EnvX.sub{w u:World}{l l':List (Nat × Obj)}(h:EnvX w u l)(hs: ∀x∈l',x∈l):EnvX w u l':=⟨h.bel,fun g o hm=>h.box g o (hs _ hm)⟩
theorem EnvX.row{w u:World}{l:List (Nat × Obj)}(h:EnvX w u l){g:Nat}{cs:Array Value}{t:TypeId}(hm:(g,Obj.cells cs t (0,0))∈l):Row u g t cs:=h.box g _ hm
def EnvC(w:World)(l:List (Nat × Obj))(u:World):Prop:=EnvX w u l
theorem EnvC.box{w u:World}{l:List (Nat × Obj)}(h:EnvC w l u)(g:Nat)(o:Obj)(hm:(g,o)∈l):u.heap[g]?=some o:=EnvX.box h g o hm
theorem EnvC.call{w u:World}{l:List (Nat × Obj)}{P:Program}{f:FuncId}{args:Array Value}{v:Value}(hu:EnvC w l u)
  (h:Calls P f args u fun e w'=>e= .returned v∧Below u.heap.size u w'):Calls P f args u fun e w'=>e= .returned v∧EnvC w l w':=
 h.mono fun _ _⟨he,hb⟩=>⟨he,EnvX.below hu hb⟩
theorem EnvC.one{w u:World}{l:List (Nat × Obj)}(h:EnvX w u l)(x y:Value):(∀v,EnvC w l v→x=y) ↔x=y:=⟨fun k=>k u h,fun e _ _=>e⟩
section
variable {P:Program}{C:World→Prop}{a:Act}{o:Oper}{K:Act→Prop}
end
section
variable {P:Program}{ops:Array Oper}{md:Region.Mode}{S:World→Prop}{w0:World}
def q4K(P:Program)(u:World)(v:Value):Result Next→Prop
  | .ok (.value x) u'=>u'=u∧x=v
  | .ok .skip u'=>u'=u∧v=undef
  | .ok (.enter f args) u'=>u'=u∧Calls P f args u (fun e w''=>e= .returned v∧Below u.heap.size u w'')
  |_=>False
def GAt(P:Program)(o:Oper)(a:Act)(v:Value)(u:World):Prop:=q4K P u v ((execOp a.eval o).run P u)
def j7h(o:Oper):Bool:=match o.op with| .move _| .assign _| .extract _ _=>true|_=>false
def x4e(f:FuncId):Bool:=f==63||f==99999999||f==99999999||f==99999999||f==99999999||f==99999999||f==99999999||f==236||f==99999999||f==78||f==146||f==96||f==38||f==46||f==36||f==41||f==47||f==43||f==13||f==17||f==15||f==40||f==14||f==18||f==16
def j3d(o:Oper):Bool:=match o.op with| .store _ _ _=>true| .call c=>(match c.callee with| .builtin .append=>true| .builtin .copy=>true| .builtin .clear=>true| .value (.tmp _)=>true| .value (.func f)=>x4e f|_=>false)|_=>false
theorem q3D{o:Oper}(h:j7h o=true){a:Act}{v:Value}{u:World}(hq:GAt P o a v u)(u':World):GAt P o a v u':=by
 unfold GAt at *
 unfold j7h at h
 unfold execOp at *
 cases hop:o.op<;>simp only[hop]at h hq ⊢ <;>first|(cases h;done)|skip
 case move x=>exact⟨rfl,hq.2⟩
 case assign x=>exact⟨rfl,hq.2⟩
 case extract x i=>
  cases hx:a.eval x with
  |tuple vs=>
   simp only[hx,Instr.extract]at hq ⊢
   cases hv:vs[i]? with
   |none=>simp only[hv]at hq;exact hq.elim
   |some y=>simp only[hv]at hq ⊢;exact⟨rfl,hq.2⟩
  |_=>simp only[hx,Instr.extract]at hq;exact hq.elim
def j3r(P:Program)(o:Oper)(a:Act)(z:Obj):Prop:= ∀u,(execOp a.eval o).run P u= .ok (.value (.pointer (some ⟨u.heap.size,0,none⟩))) (u.alloc z)
def q9N(P:Program)(o:Oper)(a:Act)(g:Nat)(old cs:Array Value)(t:TypeId):Prop:= ∀u,u.heap[g]?=some (.cells old t (0,0))→(execOp a.eval o).run P u= .ok .skip (u.setRow g cs)
def gOp (P:Program) (ops:Array Oper) (S:World→Prop) (w0:World) (i:Nat) (K:Act→Bool→List (Nat × Obj)→Prop) (a:Act) (b:Bool) (M:List (Nat × Obj)):Prop:=
  match ops[i]? with
  |none=>K a b M
  | some o=>if Region.wanted o (yielded ops a.tmps)then
      ((∃v,((b=true∧ ∀u,S u→GAt P o a v u)∨ ∀u,GAt P o a v u)∧K (a.put o.dst v) b M)∨
       (∃z,j3r P o a z∧ ∀g,w0.heap.size≤g→(∀x∈M,x.1≠g)→K (a.put o.dst (.pointer (some ⟨g,0,none⟩))) b ((g,z)::M))∨
       (j3d o=true∧ ∃g old cs t M',w0.heap.size≤g∧(g,Obj.cells old t (0,0))∈M∧q9N P o a g old cs t∧(∀x∈M',x=(g,Obj.cells cs t (0,0))∨(x∈M∧x.1≠g))∧K (a.put o.dst undef) false M'))
    else K (a.put o.dst undef) b M
def j6D(P:Program)(md:Region.Mode)(ops:Array Oper)(S:World→Prop)(w0:World)(Q:Act→Bool→List (Nat × Obj)→Prop):Nat→Array Bool→Act→Bool→List (Nat × Obj)→Prop
  |0,listed,a,b,M=>Region.ready md ops listed=[]∧Q a b M
  |f+1,listed,a,b,M=>(Region.ready md ops listed=[]→Q a b M)∧ ∀i∈Region.ready md ops listed,gOp P ops S w0 i (j6D P md ops S w0 Q f (listed.setIfInBounds i true)) a b M
def GT(S:World→Prop)(w0:World)(b:Bool)(M:List (Nat × Obj))(u:World):Prop:=(b=true→S u)∧EnvX w0 u M
theorem EnvX.put{w u:World}{l l':List (Nat × Obj)}(h:EnvX w u l){g:Nat}{old cs:Array Value}{t:TypeId}(hg:w.heap.size≤g)(hm:(g,Obj.cells old t (0,0))∈l)
   (hl: ∀x∈l',x=(g,Obj.cells cs t (0,0))∨(x∈l∧x.1≠g)):EnvX w (u.setRow g cs) l':=by
 refine⟨j0G h.bel hg _,fun k o hk=>?_⟩
 rcases hl _ hk with e|⟨hk',hne⟩
 · cases e
   exact setRow_heap u g old cs t (0,0) (h.box g _ hm)
 · exact(setRow_other u g k cs hne).trans (h.box k o hk')
theorem j7y {i:Nat} {a:Act} {b:Bool} {M:List (Nat × Obj)} {K:Act→Bool→List (Nat × Obj)→Prop} {K':Act→World→Prop} {Q':Exit→Act→World→Prop} {u:World}
   (hS: ∀u v,S u→Below u.heap.size u v→S v) (hu:GT S w0 b M u) (h: ∀a b M u,GT S w0 b M u→K a b M→K' a u) (hh:gOp P ops S w0 i K a b M):wpOp P ops Q' i K' a u:=by
 unfold gOp at hh
 unfold wpOp
 split
 · rename_i ho;simp only[ho]at hh;exact h _ _ _ _ hu hh
 · rename_i o ho
   simp only[ho]at hh
   split
   · rename_i hw
     simp only[hw,if_true]at hh
     refine .inl ?_
     rcases hh with ⟨v,hv,hK⟩|⟨z,hz,hK⟩|⟨_,g,old,cs,t,M',hg,hm,hp,hM',hK⟩
     · have h3:GAt P o a v u:=by
        rcases hv with ⟨hb,hv⟩|hv
        · exact hv u (hu.1 hb)
        · exact hv u
       unfold GAt at h3
       unfold Oper.wp
       generalize (execOp a.eval o).run P u=r at *
       cases r with
       |ok n w'=>
        cases n<;>simp only[q4K]at h3<;>simp only[Oper.upon]
        case value x=>
          obtain⟨e1,e2⟩:=h3
          rw[e1,e2]
          exact h _ _ _ _ hu hK
        case skip=>
          obtain⟨e1,e2⟩:=h3
          rw[e1,←e2]
          exact h _ _ _ _ hu hK
        case enter f args=>
          obtain⟨e1,hc⟩:=h3
          rw[e1]
          exact hc.mono fun e w''⟨he,hb⟩=>by subst he;exact h _ _ _ _ ⟨fun hb'=>hS _ _ (hu.1 hb') hb,hu.2.below hb⟩ hK
       |halt x w'=>simp only[q4K]at h3
     · unfold Oper.wp
       rw[hz u]
       simp only[Oper.upon]
       have hfresh: ∀x∈M,x.1≠u.heap.size:=fun x hx he=>by
        have:=hu.2.lt (g:=x.1) (o:=x.2) hx
        omega
       exact h _ _ _ _ ⟨fun hb=>hS _ _ (hu.1 hb) ((Below.refl _ _).alloc (Nat.le_refl _) _),hu.2.new z⟩ (hK _ hu.2.bel.size hfresh)
     · unfold Oper.wp
       rw[hp u (hu.2.box g _ hm)]
       simp only[Oper.upon]
       exact h _ _ _ _ ⟨(fun hb=>by cases hb),hu.2.put hg hm hM'⟩ hK
   · rename_i hw;simp only[hw]at hh;exact h _ _ _ _ hu hh
theorem j8S(hS: ∀u v,S u→Below u.heap.size u v→S v){Q:Act→Bool→List (Nat × Obj)→Prop}{Q':Exit→Act→World→Prop}(hQ: ∀a b M u,GT S w0 b M u→Q a b M→Q' .normal a u):
  ∀(f:Nat)(listed:Array Bool)(a:Act)(b:Bool)(M:List (Nat × Obj))(u:World),GT S w0 b M u→j6D P md ops S w0 Q f listed a b M→wpAny P md ops Q' f listed a u
 |0,_,_,_,_,_,hu,h=>⟨h.1,hQ _ _ _ _ hu h.2⟩
 |f+1,_,_,_,_,_,hu,h=>⟨fun h0=>hQ _ _ _ _ hu (h.1 h0),fun i hi=>j7y hS hu (fun a' b' M' u' hu'=>j8S hS hQ f _ a' b' M' u' hu') (h.2 i hi)⟩
def q5f (md:Region.Mode) (ops:Array Oper):Nat→Nat→Nat→Bool
  |0,_,_=>false
  | f+1,j,i=>match ops[j]? with
    |some o=>o.after.any fun e=>Region.binds md e&& (e.on==i||q5f md ops f e.on i)
    |none=>false
def j3N(md:Region.Mode)(ops:Array Oper)(listed:Array Bool):Prop:=
  ∀j oj,ops[j]?=some oj→listed.getD j false=true→ ∀e∈oj.after,Region.binds md e=true→listed.getD e.on false=true
theorem j6u{listed:Array Bool}(hc:j3N md ops listed){i:Nat}: ∀(f j:Nat),(∀oj,ops[j]?=some oj→ ∀e∈oj.after,Region.binds md e=true→listed.getD e.on false=true)→q5f md ops f j i=true→listed.getD i false=true
 |0,_,_,h=>by simp[q5f]at h
 |f+1,j,hj,h=>by
  unfold q5f at h
  split at h
  · rename_i o ho
    obtain⟨e,he,hb⟩:=Array.any_eq_true'.1 h
    simp only[Bool.and_eq_true,Bool.or_eq_true,beq_iff_eq]at hb
    have hl:=hj o ho e he hb.1
    rcases hb.2 with h1|h1
    · rw[←h1];exact hl
    · exact j6u hc f e.on (fun oj hoj e' he' hb'=>hc e.on oj hoj hl e' he' hb') h1
  · cases h
theorem j17{listed:Array Bool}{i:Nat}(hc:j3N md ops listed)(hi:i∈Region.ready md ops listed):j3N md ops (listed.setIfInBounds i true):=by
 obtain⟨_,oi,hoi,hall⟩:=mem_ready.1 hi
 intro j oj hj hl e he hb
 by_cases hij:i=j
 · subst hij
   have:oj=oi:=Option.some.inj (hj.symm.trans hoi)
   subst this
   exact getD_set_true (hall e he hb)
 · rw[getD_set_ne false hij]at hl
   exact getD_set_true (hc j oj hj hl e he hb)
def YieldsG(P:Program)(ops:Array Oper)(S:World→Prop)(o:Oper)(v:Value)(b:Bool)(a:Act):Prop:=
  (Region.wanted o (yielded ops a.tmps)=true∧((b=true∧ ∀u,S u→GAt P o a v u)∨ ∀u,GAt P o a v u))∨
  (Region.wanted o (yielded ops a.tmps)=false∧v=undef)
theorem YieldsG.gOp{i:Nat}{o:Oper}{v:Value}{a:Act}{b:Bool}{M:List (Nat × Obj)}(hi:ops[i]?=some o)(hy:YieldsG P ops S o v b a){K:Act→Bool→List (Nat × Obj)→Prop}(h:K (a.put o.dst v) b M):gOp P ops S w0 i K a b M:=by
 unfold Go.Proofs.YtojmeodoenkapaaGreatDoor.gOp
 simp only[hi]
 rcases hy with ⟨hw,hv⟩|⟨hw,rfl⟩
 · simp only[hw,if_true];exact .inl ⟨v,hv,h⟩
 · simp only[hw,Bool.false_eq_true,if_false];exact h
theorem YieldsG.of_same{o:Oper}{v:Value}{a a':Act}{b:Bool}(hy:YieldsG P ops S o v b a)(he:execOp a'.eval o=execOp a.eval o)
  (hw:Region.wanted o (yielded ops a'.tmps)=Region.wanted o (yielded ops a.tmps)):YieldsG P ops S o v b a':=by
 unfold YieldsG GAt at *
 rw[he,hw]
 exact hy
theorem x2t{j:Nat}{oi oj:Oper}{v:Value}{b:Bool}{M:List (Nat × Obj)}(hj:ops[j]?=some oj)(hap:oi.apart ops oj=true)
   (hsi: ∀cs b,oi.op≠ .select cs b) (hsj: ∀cs b,oj.op≠ .select cs b) {K:Act→Bool→List (Nat × Obj)→Prop} {a:Act}
   (hy:YieldsG P ops S oi v b a) (hst:j3d oj=true→YieldsG P ops S oi v false a) (h:gOp P ops S w0 j K (a.put oi.dst v) b M):
   gOp P ops S w0 j (fun a' b' M'=>YieldsG P ops S oi v b' a'∧(b'=b∨j3d oj=true)∧K (a'.put oi.dst v) b' M') a b M:=by
 obtain⟨h1,h2,h3⟩:=Oper.apart_spec hap
 have keep: ∀(a:Act)(b:Bool),YieldsG P ops S oi v b a→ ∀u,YieldsG P ops S oi v b (a.put oj.dst u):=fun a b hy u=>
   hy.of_same (execOp_put oi hsi a oj.dst u h3) (wanted_put oi a oj.dst u h3)
 have hex:=execOp_put (ops:=ops) oj hsj a oi.dst v h1
 unfold gOp at *
 simp only[hj]at *
 rw[wanted_put oj a oi.dst v h1]at h
 split
 · rename_i hw
   simp only[hw,if_true]at h
   rcases h with ⟨x,hx,hK⟩|⟨z,hz,hK⟩|⟨hs,g,old,cs,t,M',hg,hm,hp,hM',hK⟩
   · refine .inl ⟨x,?_,keep a b hy x,by simp,by rw[←Act.put_comm a v x h2];exact hK⟩
     unfold GAt at *
     rw[hex]at hx
     exact hx
   · refine .inr (.inl ⟨z,?_,fun g hg hf=>⟨keep a b hy _,by simp,by rw[←Act.put_comm a v _ h2];exact hK g hg hf⟩⟩)
     unfold j3r at *
     rw[hex]at hz
     exact hz
   · refine .inr (.inr ⟨hs,g,old,cs,t,M',hg,hm,?_,hM',keep a false (hst hs) _,by simp[hs],by rw[←Act.put_comm a v _ h2];exact hK⟩)
     unfold q9N at *
     rw[hex]at hp
     exact hp
 · rename_i hw
   simp only[hw]at h
   exact⟨keep a b hy _,by simp,by rw[←Act.put_comm a v undef h2];exact h⟩
theorem x0x{i:Nat}{a:Act}{b:Bool}{M:List (Nat × Obj)}{K K':Act→Bool→List (Nat × Obj)→Prop}(h: ∀a b M,K a b M→K' a b M)(hh:gOp P ops S w0 i K a b M):gOp P ops S w0 i K' a b M:=by
 unfold gOp at *
 split
 · exact h _ _ _ (by simpa [*] using hh)
 · rename_i o ho
   simp only[ho]at hh
   split
   · rename_i hw
     simp only[hw,if_true]at hh
     rcases hh with ⟨v,hv,hK⟩|⟨z,hz,hK⟩|⟨hs,g,old,cs,t,M',hg,hm,hp,hM',hK⟩
     · exact .inl ⟨v,hv,h _ _ _ hK⟩
     · exact .inr (.inl ⟨z,hz,fun g hg hf=>h _ _ _ (hK g hg hf)⟩)
     · exact .inr (.inr ⟨hs,g,old,cs,t,M',hg,hm,hp,hM',h _ _ _ hK⟩)
   · rename_i hw;simp only[hw]at hh;exact h _ _ _ hh
def x0z(md:Region.Mode)(ops:Array Oper)(listed:Array Bool)(i:Nat)(p:Bool):Bool:=
  match ops[i]? with
  |none=>false
  |some oi=>(List.range ops.size).all fun j=>j==i||listed.getD j true||match ops[j]? with
      |some oj=>(oi.apart ops oj&& (p||!j3d oj))||oj.after.any (fun e=>Region.binds md e&& e.on==i)||q5f md ops ops.size j i
      |none=>true
theorem j6F {Q:Act→Bool→List (Nat × Obj)→Prop} {i:Nat} {oi:Oper} {v:Value} (hi:ops[i]?=some oi) (hsel: ∀(j:Nat)(o:Oper) cs b,ops[j]?=some o→o.op≠ .select cs b) (p:Bool)
  (hp:p=true→ ∀b b' a,YieldsG P ops S oi v b a→YieldsG P ops S oi v b' a):
  ∀ (fuel:Nat) (listed:Array Bool) (a:Act) (b:Bool) (M:List (Nat × Obj)),j3N md ops listed→
    (∀j oj,ops[j]?=some oj→j≠i→listed.getD j true=false→q5f md ops ops.size j i=true∨(oi.apart ops oj=true∧(p=true∨j3d oj=false)))→
    i∈Region.ready md ops listed→YieldsG P ops S oi v b a→
    j6D P md ops S w0 Q fuel (listed.setIfInBounds i true) (a.put oi.dst v) b M→j6D P md ops S w0 Q (fuel+1) listed a b M:=by
 intro fuel
 induction fuel with
 |zero=>
  intro listed a b M _ _ hr hy H
  refine⟨fun h=>(by rw[h]at hr;cases hr),fun j hj=>?_⟩
  by_cases hji:j=i
  · subst hji;exact hy.gOp hi H
  · have:=ready_mono hj hji
    rw[H.1]at this
    cases this
 | succ fuel ih=>
  intro listed a b M hcl hfree hr hy H
  refine⟨fun h=>(by rw[h]at hr;cases hr),fun j hj=>?_⟩
  by_cases hji:j=i
  · subst hji;exact hy.gOp hi H
  · have h1:=H.2 j (ready_mono hj hji)
    obtain⟨hjun,oj,hoj,hall⟩:=mem_ready.1 hj
    have h0:=(mem_ready.1 hr).1
    have hno: ¬q5f md ops ops.size j i=true:=fun ha=>by
      have hl:=j6u hcl (i:=i) ops.size j (fun o ho e he hb=>by
        have:o=oj:=Option.some.inj (ho.symm.trans hoj)
        subst this
        exact hall e he hb) ha
      rcases Nat.lt_or_ge i listed.size with h'|h'
      · simp[h']at h0 hl;rw[h0]at hl;cases hl
      · simp[Array.getElem?_eq_none h']at hl
    rcases hfree j oj hoj hji hjun with hf|⟨hap,hps⟩
    · exact absurd hf hno
    · have hst:j3d oj=true→YieldsG P ops S oi v false a:=fun hs=>by
        rcases hps with hp'|hn
        · exact hp hp' _ _ _ hy
        · rw[hn]at hs;cases hs
      have h2:=x2t hoj hap (fun cs b=>hsel i oi cs b hi) (fun cs b=>hsel j oj cs b hoj) hy hst h1
      have hfree': ∀k ok,ops[k]?=some ok→k≠i→(listed.setIfInBounds j true).getD k true=false→q5f md ops ops.size k i=true∨(oi.apart ops ok=true∧(p=true∨j3d ok=false)):=fun k ok hk hki hun=>by
        refine hfree k ok hk hki ?_
        by_cases hjk:j=k
        · subst hjk;exact hjun
        · rw[getD_set_ne true hjk]at hun;exact hun
      refine x0x (fun a' b' M' h3=>ih (listed.setIfInBounds j true) a' b' M' (j17 hcl hj) hfree' (ready_mono hr (Ne.symm hji)) h3.1 ?_) h2
      rw[Array.setIfInBounds_comm _ _ hji]
      exact h3.2.2
def j4C (P:Program) (l:List Oper) (S:World→Prop) (Q:Act→Prop):List Nat→Act→Prop
  |[],a=>Q a
  | i::rest,a=>match l[i]? with
    |none=>False
    |some o=>if Region.wanted o (yielded l.toArray a.tmps)then∃v,(∀u,S u→GAt P o a v u)∧j4C P l S Q rest (a.put o.dst v)else j4C P l S Q rest (a.put o.dst undef)
structure wpG(P:Program)(l:List Oper)(S:World→Prop)(Q:Act→Prop)(ord:List Nat)(a:Act):Prop where
  out:j4C P l S Q ord a
def q6u(md:Region.Mode)(ops:Array Oper):List Nat→Array Bool→Bool
  |[],_=>true
  |i::rest,listed=>(Region.ready md ops listed).contains i&& x0z md ops listed i ((ops[i]?.map j7h).getD false) && q6u md ops rest (listed.setIfInBounds i true)
def j2g:List Nat→Array Bool→Array Bool
  |[],l=>l
  |i::rest,l=>j2g rest (l.setIfInBounds i true)
theorem j4X{i:Nat}{oi:Oper}{listed:Array Bool}{p:Bool}(hi:ops[i]?=some oi)(h:x0z md ops listed i p=true)(j:Nat)(oj:Oper)(hj:ops[j]?=some oj)(hne:j≠i)(hun:listed.getD j true=false):
   q5f md ops ops.size j i=true∨(oi.apart ops oj=true∧(p=true∨j3d oj=false)):=by
 simp only[x0z,hi,List.all_eq_true,List.mem_range]at h
 have hsz:=(Array.getElem?_eq_some_iff.1 hj).1
 have h1:=h j hsz
 simp only[hj,Bool.or_eq_true,beq_iff_eq,hne,false_or,hun,Bool.false_eq_true,Bool.and_eq_true,Bool.not_eq_true']at h1
 rcases h1 with (h1|h1)|h1
 · exact .inr h1
 · left
   obtain⟨n,hn⟩: ∃n,ops.size=n+1:=⟨ops.size- 1,by omega⟩
   rw[hn]
   unfold q5f
   simp only[hj]
   obtain⟨e,he,hb⟩:=Array.any_eq_true'.1 h1
   simp only[Bool.and_eq_true,beq_iff_eq]at hb
   exact Array.any_eq_true'.2 ⟨e,he,by simp[hb.1,hb.2]⟩
 · exact .inl h1
theorem j6c{Q:Act→Bool→List (Nat × Obj)→Prop}{l:List Oper}(hs:Region.noSelect l.toArray=true){s0:World}(h0:S s0){M:List (Nat × Obj)}: ∀(ord:List Nat)(f:Nat)(listed:Array Bool)(a:Act),j3N md l.toArray listed→
  q6u md l.toArray ord listed=true→j4C P l S (fun a'=>j6D P md l.toArray S w0 Q f (j2g ord listed) a' true M) ord a→j6D P md l.toArray S w0 Q (ord.length+f) listed a true M
 |[],f,listed,a,_,_,h=>by simpa [j4C,j2g] using h
 | i ::ord,f,listed,a,hcl,hB,h=>by
  simp only[q6u,Bool.and_eq_true]at hB
  obtain⟨⟨hr,hf⟩,hB'⟩:=hB
  have hr':i∈Region.ready md l.toArray listed:=by simpa using hr
  unfold j4C at h
  cases hl:l[i]? with
  |none=>simp only[hl]at h
  |some o=>
   simp only[hl]at h
   have ho:l.toArray[i]?=some o:=by simpa using hl
   have hpp:(l.toArray[i]?.map j7h).getD false=j7h o:=by rw[ho];rfl
   rw[hpp]at hf
   have hlen:(i::ord).length+f=(ord.length+f)+1:=by simp only[List.length_cons];omega
   rw[hlen]
   have hpy:j7h o=true→ ∀v b b' a,YieldsG P l.toArray S o v b a→YieldsG P l.toArray S o v b' a:=fun hpu v b b' a hy=>by
     rcases hy with ⟨hw,hv⟩|hy
     · refine .inl ⟨hw, .inr ?_⟩
       rcases hv with ⟨_,hv⟩|hv
       · exact fun u=>q3D hpu (hv s0 h0) u
       · exact hv
     · exact .inr hy
   by_cases hw:Region.wanted o (yielded l.toArray a.tmps)=true
   · simp only[hw,if_true]at h
     obtain⟨v,hv,hK⟩:=h
     exact j6F ho (Region.noSelect_spec hs) (j7h o) (fun hpu=>hpy hpu v) _ listed a true M hcl (j4X ho hf) hr' (.inl ⟨hw, .inl ⟨rfl,hv⟩⟩)
       (j6c hs h0 ord f _ _ (j17 hcl hr') hB' hK)
   · simp only[hw,Bool.false_eq_true,if_false]at h
     exact j6F ho (Region.noSelect_spec hs) (j7h o) (fun hpu=>hpy hpu undef) _ listed a true M hcl (j4X ho hf) hr' (.inr ⟨by simpa using hw,rfl⟩)
       (j6c hs h0 ord f _ _ (j17 hcl hr') hB' h)
theorem q10{id:Nat}{Q:Exit→Act→World→Prop}{a:Act}{w:World}{l:List Oper}(ord:List Nat)(L:List (Nat × Obj))(f:Nat)(hm:P.follows .mixedOrders=true)
  (hB:(Region.noSelect l.toArray&& q6u .any l.toArray ord (Array.replicate l.toArray.size false))=true) (hf:l.toArray.size=ord.length+f) (hE:EnvX w0 w L)
  (h:wpG P l (EnvC w0 L) (fun a'=>j6D P .any l.toArray (EnvC w0 L) w0 (fun a b M=> ∀u,GT (EnvC w0 L) w0 b M u→Q .normal a u) f (j2g ord (Array.replicate l.toArray.size false)) a' true L) ord a):
  (Code.region id l.toArray true).wp P Q a w:=by
 simp only[Bool.and_eq_true]at hB
 have hcl:j3N .any l.toArray (Array.replicate l.toArray.size false):=fun j oj _ hl=>by
  rw[getD_replicate_false]at hl
  cases hl
 refine wp_region_any hm (j8S (S:=EnvC w0 L) (w0:=w0) (fun u v hu hb=>EnvX.below hu hb) (Q:=fun a b M=> ∀u,GT (EnvC w0 L) w0 b M u→Q .normal a u) (fun a b M u hu hh=>hh u hu) _ _ _ true L _ ⟨fun _=>hE.drew,hE.drew⟩ ?_)
 have h2:=j6c (w0:=w0) hB.1 (s0:=w.drew) (S:=EnvC w0 L) hE.drew ord f _ a hcl hB.2 h.out
 rw[←hf]at h2
 exact h2
def q33(P:Program)(ops:Array Oper)(S:World→Prop)(w0:World)(Q:Act→Bool→List (Nat × Obj)→Prop):List Nat→Act→Bool→List (Nat × Obj)→Prop
  |[],a,b,M=>Q a b M
  |i::rest,a,b,M=>gOp P ops S w0 i (q33 P ops S w0 Q rest) a b M
theorem j6z(hS: ∀u v,S u→Below u.heap.size u v→S v){Q:Act→Bool→List (Nat × Obj)→Prop}{Q':Exit→Act→World→Prop}(hQ: ∀a b M u,GT S w0 b M u→Q a b M→Q' .normal a u):
  ∀(l:List Nat)(a:Act)(b:Bool)(M:List (Nat × Obj))(u:World),GT S w0 b M u→q33 P ops S w0 Q l a b M→wpOps P ops Q' l a u
 |[],_,_,_,_,hu,h=>hQ _ _ _ _ hu h
 |i::l,_,_,_,_,hu,h=>by
  rw[wpOps_cons]
  exact j7y hS hu (fun a' b' M' u' hu'=>j6z hS hQ l a' b' M' u' hu') h
theorem j5Z{l:List Oper}{Q:Act→Bool→List (Nat × Obj)→Prop}{M:List (Nat × Obj)}(rest:List Nat): ∀(ord:List Nat)(a:Act),j4C P l S (fun a'=>q33 P l.toArray S w0 Q rest a' true M) ord a→q33 P l.toArray S w0 Q (ord++rest) a true M
 |[],a,h=>h
 | i ::ord,a,h=>by
  unfold j4C at h
  show gOp P l.toArray S w0 i (q33 P l.toArray S w0 Q (ord++rest)) a true M
  unfold gOp
  cases hl:l[i]? with
  |none=>simp only[hl]at h
  |some o=>
   simp only[hl]at h
   have ho:l.toArray[i]?=some o:=by simpa using hl
   simp only[ho]
   split
   · rename_i hw
     simp only[hw,if_true]at h
     obtain⟨v,hv,hK⟩:=h
     exact .inl ⟨v, .inl ⟨by trivial,hv⟩,j5Z rest ord _ hK⟩
   · rename_i hw
     simp only[hw]at h
     exact j5Z rest ord _ h
theorem j1z{id:Nat}{Q:Exit→Act→World→Prop}{a:Act}{w:World}{l:List Oper}(ord rest:List Nat)(L:List (Nat × Obj))(hr:List.range l.toArray.size=ord++rest)(hE:EnvX w0 w L)
  (h:wpG P l (EnvC w0 L) (fun a'=>q33 P l.toArray (EnvC w0 L) w0 (fun a b M=> ∀u,GT (EnvC w0 L) w0 b M u→Q .normal a u) rest a' true L) ord a):
  (Code.region id l.toArray false).wp P Q a w:=by
 refine wp_region ?_
 rw[hr]
 exact j6z (S:=EnvC w0 L) (w0:=w0) (fun u v hu hb=>EnvX.below hu hb) (Q:=fun a b M=> ∀u,GT (EnvC w0 L) w0 b M u→Q .normal a u) (fun a b M u hu hh=>hh u hu) _ a true L w ⟨fun _=>hE,hE⟩ (j5Z rest ord a h.out)
theorem j5P{f:FuncId}{fn:Func}{c:Code}(hf:P.funcs[f]?=some fn)(hname:(fn.name== "runtime.NumGoroutine")=false)(hb:fn.body=some c)(args:Array Value)(w:World):
  (callFunc f args).run P w= .ok (.enter f args) w:=by
 have h1:fn.name≠ "runtime.NumGoroutine" :=by simpa using hname
 simp[callFunc,hf,h1,hb]
section
variable {l:List Oper}{C:World→Prop}{Q:Act→Prop}{a:Act}{i:Nat}{rest:List Nat}{dst:Option Tmp}{op:Op}{ty:TypeId}{pos:String}{after:Array Edge}{gd:Option (Nat × Bool)}
theorem j0b(h:Q a):wpG P l C Q [] a:=⟨h⟩
theorem x04(ho:l[i]?=some ⟨dst,op,ty,pos,after,gd⟩)(hw:Region.wanted ⟨dst,op,ty,pos,after,gd⟩ (yielded l.toArray a.tmps)=false)
  (h: ∀K:Act→Prop,(∀a,wpG P l C Q rest a→K a)→Oper.quiet P ⟨dst, .move (.const undef),ty,pos,after,gd⟩ a C K) {u0:World} (h0:C u0):wpG P l C Q (i::rest) a:=by
 refine⟨?_⟩
 unfold j4C
 simp only[ho]
 rw[if_neg (by rw[hw];exact Bool.false_ne_true)]
 obtain⟨v,hv,hK⟩:=h (j4C P l C Q rest) (fun _ h=>h.out)
 have h1:=hv u0 h0
 have e:v=undef:=by
  unfold Oper.quietAt execOp at h1
  exact h1.2.symm
 rw[e]at hK
 exact hK
theorem j7Q{o:Oper}{v:Value}{u:World}(h: ∀f args u',(execOp a.eval o).run P u≠ .ok (.enter f args) u')(hq:Oper.quietAt P o a C u v):GAt P o a v u:=by
 unfold Oper.quietAt at hq
 unfold GAt
 generalize (execOp a.eval o).run P u=r at *
 cases r with
 |ok n w'=>
  cases n<;>simp only[Oper.quietUpon]at hq<;>simp only[q4K]
  case value x=>exact hq
  case skip=>exact hq
  case enter f args=>exact absurd rfl (h f args w')
 |halt x w'=>simp only[Oper.quietUpon]at hq
def j99(op:Op):Bool:=match op with| .move _| .assign _| .pick _ _ _| .build _ _| .load _ _| .binOp _ _ _ _ _| .unOp _ _ _| .convert _ _ _| .indexAddr _ _ _| .fieldAddr _ _ _| .field _ _ _| .index _ _ _| .extract _ _=>true|_=>false
theorem j7c{α:Type}(s:Sem α)(g:α→Value)(u:World)(f:FuncId)(args:Array Value)(u':World):(s>>=fun x=>(pure (Next.value (g x)):Sem Next)).run P u≠ .ok (.enter f args) u':=by
 rw[Sem.run_bind]
 cases s.run P u with
 |ok x w=>intro h;simp[Result.andThen]at h
 |halt x w=>intro h;simp[Result.andThen]at h
theorem j5H(hv:j99 op=true)(u:World)(f:FuncId)(args:Array Value)(u':World):(execOp a.eval ⟨dst,op,ty,pos,after,gd⟩).run P u≠ .ok (.enter f args) u':=by
 unfold j99 at hv
 cases op<;>first|(cases hv;done)|(unfold execOp;exact j7c _ id u f args u')|(unfold execOp;intro h;simp at h;done)|skip
 case pick c x y=>exact j7c (asBool (a.eval c)) (fun b=>if b then a.eval x else a.eval y) u f args u'
theorem j4E(ho:l[i]?=some ⟨dst,op,ty,pos,after,gd⟩)(hw:Region.wanted ⟨dst,op,ty,pos,after,gd⟩ (yielded l.toArray a.tmps)=true)(hv:j99 op=true)
  (h: ∀K:Act→Prop,(∀a,wpG P l C Q rest a→K a)→Oper.quiet P ⟨dst,op,ty,pos,after,gd⟩ a C K):wpG P l C Q (i::rest) a:=by
 refine⟨?_⟩
 unfold j4C
 simp only[ho]
 rw[if_pos hw]
 obtain⟨v,hq,hK⟩:=h (j4C P l C Q rest) (fun _ h=>h.out)
 exact⟨v,fun u hu=>j7Q (j5H hv u) (hq u hu),hK⟩
theorem j6a{v:Value}(ho:l[i]?=some ⟨dst,op,ty,pos,after,gd⟩)(hw:Region.wanted ⟨dst,op,ty,pos,after,gd⟩ (yielded l.toArray a.tmps)=true)
  (hv: ∀u,C u→(execOp a.eval ⟨dst,op,ty,pos,after,gd⟩).run P u= .ok (.value v) u)
  (h: ∀K:Act→Prop,(∀a,wpG P l C Q rest a→K a)→Oper.quiet P ⟨dst, .move (.const v),ty,pos,after,gd⟩ a C K) {u0:World} (h0:C u0):wpG P l C Q (i::rest) a:=by
 refine⟨?_⟩
 unfold j4C
 simp only[ho]
 rw[if_pos hw]
 obtain⟨v',hq,hK⟩:=h (j4C P l C Q rest) (fun _ h=>h.out)
 have e:v'=v:=by
  have h1:=hq u0 h0
  unfold Oper.quietAt execOp at h1
  exact h1.2.symm
 rw[e]at hK
 exact⟨v,fun u hu=>by unfold GAt;rw[hv u hu];exact⟨rfl,rfl⟩,hK⟩
theorem j2f{ty':TypeId}{x:Operand}(ho:l[i]?=some ⟨dst, .load ty' x,ty,pos,after,gd⟩)(hw:Region.wanted ⟨dst, .load ty' x,ty,pos,after,gd⟩ (yielded l.toArray a.tmps)=true)
  (g:Nat) (hx:a.eval x= .pointer (some ⟨g,0,none⟩)) (t:TypeId) (cs:Array Value) (d:TypeDesc) (hC: ∀u,C u→u.heap[g]?=some (.cells cs t (0,0)))
  (hu:P.underlying ty'=some d) (hd:(match d with| .struct _| .array _ _=>true|_=>false)=true) (hi:(P.info? ty').map (·.size)=some cs.size)
  (h: ∀K:Act→Prop,(∀a,wpG P l C Q rest a→K a)→Oper.quiet P ⟨dst, .move (.const (.agg cs)),ty,pos,after,gd⟩ a C K) {u0:World} (h0:C u0):wpG P l C Q (i::rest) a:=
 j6a ho hw (fun u hu'=>by
  unfold execOp
  simp only[hx,Instr.loadAt,Instr.sureAddr,Sem.run_bind,Sem.run_pure,Result.andThen_ok,run_loadVar_row u g t ty' cs (0,0) d (hC u hu') hu hd hi]) h h0
theorem j23{f:FuncId}{xs:Array Operand}{ats:Array TypeId}{fn:Func}{c:Code}{v:Value}{args:Array Value}(ho:l[i]?=some ⟨dst, .call {callee:= .value (.func f),args:=xs,argTypes:=ats},ty,pos,after,gd⟩)
  (hw:Region.wanted ⟨dst, .call {callee:= .value (.func f),args:=xs,argTypes:=ats},ty,pos,after,gd⟩ (yielded l.toArray a.tmps)=true)
  (hargs:xs.toList.map a.eval=args.toList) (hfn:P.funcs[f]?=some fn) (hname:(fn.name== "runtime.NumGoroutine")=false) (hb:fn.body=some c)
  (hcall: ∀u,C u→Calls P f args u (fun e w''=>e= .returned v∧Below u.heap.size u w''))
  (h: ∀K:Act→Prop,(∀a,wpG P l C Q rest a→K a)→Oper.quiet P ⟨dst, .move (.const v),ty,pos,after,gd⟩ a C K) {u0:World} (h0:C u0):wpG P l C Q (i::rest) a:=by
 refine⟨?_⟩
 unfold j4C
 simp only[ho]
 rw[if_pos hw]
 obtain⟨v',hv,hK⟩:=h (j4C P l C Q rest) (fun _ h=>h.out)
 have e:v'=v:=by
  have h1:=hv u0 h0
  unfold Oper.quietAt execOp at h1
  exact h1.2.symm
 rw[e]at hK
 refine⟨v,fun u hu=>?_,hK⟩
 have hrun:(execOp a.eval ⟨dst, .call {callee:= .value (.func f),args:=xs,argTypes:=ats},ty,pos,after,gd⟩).run P u= .ok (.enter f args) u:=by
  have ha:xs.map a.eval=args:=by
   apply Array.ext'
   rw[Array.toList_map]
   exact hargs
  rw[execOp_call_go]
  simp only[Array.empty_append,Array.append_empty,ha]
  exact j5P hfn hname hb _ u
 unfold GAt
 rw[hrun]
 exact⟨rfl,hcall u hu⟩
end
section
variable {Q:Act→Bool→List (Nat × Obj)→Prop}{f:Nat}{listed:Array Bool}{a:Act}{b:Bool}{M:List (Nat × Obj)}
theorem q6P(hr:Region.ready md ops listed=[])(h:Q a b M):j6D P md ops S w0 Q 0 listed a b M:=⟨hr,h⟩
theorem j4c{i:Nat}{K:Act→Bool→List (Nat × Obj)→Prop}{dst:Option Tmp}{op:Op}{ty:TypeId}{pos:String}{after:Array Edge}(z:Obj)(ho:ops[i]?=some ⟨dst,op,ty,pos,after,none⟩)(hz:j3r P ⟨dst,op,ty,pos,after,none⟩ a z)
  (h: ∀g,w0.heap.size≤g→(∀x∈M,x.1≠g)→ ∀K':Act→Prop,(∀a',K a' b ((g,z)::M)→K' a')→Oper.quiet P ⟨dst, .move (.const (.pointer (some ⟨g,0,none⟩))),ty,pos,after,none⟩ a (fun _=>True) K'):gOp P ops S w0 i K a b M:=by
 unfold gOp
 simp only[ho,Region.wanted,if_true]
 refine .inr (.inl ⟨z,hz,fun g hg hf=>?_⟩)
 obtain⟨v,hv,hK⟩:=h g hg hf (fun a'=>K a' b ((g,z)::M)) (fun _ h=>h)
 have e:v= .pointer (some ⟨g,0,none⟩):=by
  have h1:=hv w0 trivial
  unfold Oper.quietAt execOp at h1
  exact h1.2.symm
 rw[e]at hK
 exact hK
theorem j5L{i:Nat}{K:Act→Bool→List (Nat × Obj)→Prop}{dst:Option Tmp}{op:Op}{ty:TypeId}{pos:String}{after:Array Edge}(ho:ops[i]?=some ⟨dst,op,ty,pos,after,none⟩)(hop:j99 op=true)
  (h: ∀K':Act→Prop,(∀a',K a' b M→K' a')→Oper.quiet P ⟨dst,op,ty,pos,after,none⟩ a (fun _=>True) K'):gOp P ops S w0 i K a b M:=by
 unfold gOp
 simp only[ho,Region.wanted,if_true]
 obtain⟨v,hv,hK⟩:=h (fun a'=>K a' b M) (fun _ h=>h)
 exact .inl ⟨v, .inr (fun u=>j7Q (j5H hop u) (hv u trivial)),hK⟩
theorem j2l{i:Nat}{K:Act→Bool→List (Nat × Obj)→Prop}{ty ty':TypeId}{pos:String}{after:Array Edge}{x y:Operand}(ho:ops[i]?=some ⟨none, .store ty' x y,ty,pos,after,none⟩)
  (g:Nat) (cs:Array Value) (hx:a.eval x= .pointer (some ⟨g,0,none⟩)) (hy:a.eval y= .agg cs) (hg:w0.heap.size≤g) (t:TypeId) (old:Array Value) (hm:(g,Obj.cells old t (0,0))∈M)
  (hi:(P.info? ty').map (·.size)=some cs.size) (hold:old.size=cs.size) (h1:cs.all (·.oneCell')=true) (M':List (Nat × Obj)) (hM': ∀x∈M',x=(g,Obj.cells cs t (0,0))∨(x∈M∧x.1≠g))
  (h:K a false M'):gOp P ops S w0 i K a b M:=by
 unfold gOp
 simp only[ho,Region.wanted,if_true]
 refine .inr (.inr ⟨rfl,g,old,cs,t,M',hg,hm,fun u hu=>?_,hM',h⟩)
 unfold execOp
 simp only[hx,hy,Instr.storeAt,Instr.sureAddr,Sem.run_bind,Sem.run_pure,Result.andThen_ok,run_storeVar_row u g t ty' old cs hu hi hold h1]
theorem j44{dst:Option Tmp}{v:Value}{ty:TypeId}{pos:String}{after:Array Edge}{K:Act→Prop}(w0:World)
  (h: ∀K':Act→Prop,(∀a',K a'→K' a')→Oper.quiet P ⟨dst, .move (.const v),ty,pos,after,none⟩ a (fun _=>True) K'):K (a.put dst v):=by
 obtain⟨v',hv,hK⟩:=h K (fun _ h=>h)
 have e:v'=v:=by
  have h1:=hv w0 trivial
  unfold Oper.quietAt execOp at h1
  exact h1.2.symm
 rw[e]at hK
 exact hK
end
end
section
variable {P:Program}{ops:Array Oper}{md:Region.Mode}{w0:World}
abbrev j0e:=List (Nat × Obj)
def x2m(P:Program)(u:World)(R:Value→j0e→Prop):Result Next→Prop
  | .ok (.value x) u'=>Below u.heap.size u u'∧ ∃N,R x N∧ ∀y∈N,u.heap.size≤y.1∧u'.heap[y.1]?=some y.2
  | .ok (.enter f args) u'=>u'=u∧Calls P f args u (fun e w''=> ∃x N,e= .returned x∧R x N∧Below u.heap.size u w''∧ ∀y∈N,u.heap.size≤y.1∧w''.heap[y.1]?=some y.2)
  |_=>False
def q8i(P:Program)(w0:World)(R:Value→j0e→Prop):Result Next→Prop
  | .ok (.value x) u'=> ∃M',EnvX w0 u' M'∧R x M'
  | .ok .skip u'=> ∃M',EnvX w0 u' M'∧R undef M'
  | .ok (.enter f args) u'=>Calls P f args u' (fun e w''=> ∃x M',e= .returned x∧EnvX w0 w'' M'∧R x M')
  |_=>False
def FAt(P:Program)(o:Oper)(a:Act)(R:Value→j0e→Prop)(u:World):Prop:=x2m P u R ((execOp a.eval o).run P u)
def j01(w0:World)(N M:j0e):Prop:= ∀y∈N,w0.heap.size≤y.1∧ ∀z∈M,z.1≠y.1
def x2g(P:Program)(u:World)(E:List PanicEntry→World→Prop):Result Next→Prop
  | .ok (.enter f args) u'=>u'=u∧Calls P f args u (fun e w''=> ∃c,e= .panicked c∧E c w'')
  | .halt (.panic v) u'=>E [{v,recovered:=false}] u'
  |_=>False
structure HP where
  post:List PanicEntry→World→Prop
  keep:Nat→j0e
def HP.no:HP:=⟨fun _ _=>False,fun _=>[]⟩
theorem q2q{i:Nat}{M M':j0e}: ∀x∈HP.no.keep i,x∈M→x∈M':=fun x h=>absurd (show x∈([]:j0e)from h) List.not_mem_nil
theorem q3s{i:Nat}{M:j0e}{R:Value→j0e→Prop}: ∀x M',R x M'→ ∀y∈HP.no.keep i,y∈M→y∈M':=fun _ _ _ x h=>absurd (show x∈([]:j0e)from h) List.not_mem_nil
def hOp {Γ:HP} (P:Program) (ops:Array Oper) (w0:World) (i:Nat) (K:Act→j0e→Prop) (a:Act) (M:j0e):Prop:=
  match ops[i]? with
  |none=>K a M
  | some o=>if Region.wanted o (yielded ops a.tmps)then
      ((∃v M0,(∀x∈M0,x∈M)∧(∀u,EnvX w0 u M0→GAt P o a v u)∧K (a.put o.dst v) M)∨
       (∃R M0,(∀x∈M0,x∈M)∧(∀u,EnvX w0 u M0→FAt P o a R u)∧ ∀x N,R x N→j01 w0 N M→(∃u,EnvX w0 u (N++M))→K (a.put o.dst x) (N++M))∨
       (j3d o=true∧ ∃g old cs t M',w0.heap.size≤g∧(g,Obj.cells old t (0,0))∈M∧q9N P o a g old cs t∧(∀x∈M',x=(g,Obj.cells cs t (0,0))∨(x∈M∧x.1≠g))∧(∀x∈Γ.keep i,x∈M→x∈M')∧((∃u,EnvX w0 u M')→K (a.put o.dst undef) M'))∨
       (j3d o=true∧ ∃R:Value→j0e→Prop,(∀u,EnvX w0 u M→q8i P w0 R ((execOp a.eval o).run P u))∧(∀x M',R x M'→ ∀y∈Γ.keep i,y∈M→y∈M')∧ ∀x M',R x M'→(∃u,EnvX w0 u M')→K (a.put o.dst x) M')∨
       (∃M0,(∀x∈M0,x∈M)∧ ∀u,EnvX w0 u M0→x2g P u Γ.post ((execOp a.eval o).run P u)))
    else K (a.put o.dst undef) M
def j1s{Γ:HP}(P:Program)(md:Region.Mode)(ops:Array Oper)(w0:World)(Q:Act→j0e→Prop):Nat→Array Bool→Act→j0e→Prop
  |0,listed,a,M=>Region.ready md ops listed=[]∧Q a M
  |f+1,listed,a,M=>(Region.ready md ops listed=[]→Q a M)∧ ∀i∈Region.ready md ops listed,hOp (Γ:=Γ) P ops w0 i (j1s (Γ:=Γ) P md ops w0 Q f (listed.setIfInBounds i true)) a M
variable {Γ:HP}
theorem EnvX.app{w u v:World}{l N:j0e}(h:EnvX w u l)(hb:Below u.heap.size u v)(hN: ∀y∈N,u.heap.size≤y.1∧v.heap[y.1]?=some y.2):EnvX w v (N++l):=by
 have h1:=h.below hb
 refine⟨h1.bel,fun g o hm=>?_⟩
 rcases List.mem_append.1 hm with e|e
 · exact(hN _ e).2
 · exact h1.box g o e
theorem j9U{w u:World}{l N:j0e}(h:EnvX w u l)(hN: ∀y∈N,u.heap.size≤y.1):j01 w N l:=fun y hy=>
 ⟨Nat.le_trans h.bel.size (hN y hy),fun z hz e=>by
  have h1:=h.lt (g:=z.1) (o:=z.2) hz
  have h2:=hN y hy
  omega⟩
theorem j7J {i:Nat} {a:Act} {M:j0e} {K:Act→j0e→Prop} {K':Act→World→Prop} {Q':Exit→Act→World→Prop} {u:World}
   (hu:EnvX w0 u M) (Z:Act→Prop) (hz:Z a) (hZ: ∀o,ops[i]?=some o→ ∀v,Z (a.put o.dst v)) (hP: ∀c u,Γ.post c u→Q' (.panic c) a u) (h: ∀a M u,Z a→EnvX w0 u M→K a M→K' a u) (hh:hOp (Γ:=Γ) P ops w0 i K a M):wpOp P ops Q' i K' a u:=by
 unfold hOp at hh
 unfold wpOp
 split
 · rename_i ho;simp only[ho]at hh;exact h _ _ _ hz hu hh
 · rename_i o ho
   simp only[ho]at hh
   split
   · rename_i hw
     simp only[hw,if_true]at hh
     refine .inl ?_
     rcases hh with ⟨v,M0,hM0,hv,hK⟩|⟨R,M0,hM0,hv,hK⟩|⟨_,g,old,cs,t,M',hg,hm,hp,hM',_,hK⟩|⟨_,R,hv,_,hK⟩|⟨M0,hM0,hv⟩
     · have h3:=hv u (hu.sub hM0)
       unfold GAt at h3
       unfold Oper.wp
       generalize (execOp a.eval o).run P u=r at *
       cases r with
       | ok n w'=>
        cases n<;>simp only[q4K]at h3<;>simp only[Oper.upon]
        case value x=>
         obtain⟨e1,e2⟩:=h3
         rw[e1,e2]
         exact h _ _ _ (hZ o ho _) hu hK
        case skip=>
         obtain⟨e1,e2⟩:=h3
         rw[e1,←e2]
         exact h _ _ _ (hZ o ho _) hu hK
        case enter f args=>
         obtain⟨e1,hc⟩:=h3
         rw[e1]
         exact hc.mono fun e w''⟨he,hb⟩=>by subst he;exact h _ _ _ (hZ o ho _) (hu.below hb) hK
       |halt x w'=>simp only[q4K]at h3
     · have h3:=hv u (hu.sub hM0)
       unfold FAt at h3
       unfold Oper.wp
       generalize (execOp a.eval o).run P u=r at *
       cases r with
       | ok n w'=>
        cases n<;>simp only[x2m]at h3<;>simp only[Oper.upon]
        case value x=>
         obtain⟨hb,N,hR,hN⟩:=h3
         have hE:=hu.app hb hN
         exact h _ _ _ (hZ o ho _) hE (hK x N hR (j9U hu (fun y hy=>(hN y hy).1)) ⟨_,hE⟩)
        case enter f args=>
         obtain⟨e1,hc⟩:=h3
         rw[e1]
         exact hc.mono fun e w''⟨x,N,he,hR,hb,hN⟩=>by
          subst he
          have hE:=hu.app hb hN
          exact h _ _ _ (hZ o ho _) hE (hK x N hR (j9U hu (fun y hy=>(hN y hy).1)) ⟨_,hE⟩)
       |halt x w'=>simp only[x2m]at h3
     · unfold Oper.wp
       rw[hp u (hu.box g _ hm)]
       simp only[Oper.upon]
       have hE:=hu.put hg hm hM'
       exact h _ _ _ (hZ o ho _) hE (hK ⟨_,hE⟩)
     · have h3:=hv u hu
       unfold Oper.wp
       generalize (execOp a.eval o).run P u=r at *
       cases r with
       | ok n w'=>
        cases n<;>simp only[q8i]at h3<;>simp only[Oper.upon]
        case value x=>
         obtain⟨M',hE,hR⟩:=h3
         exact h _ _ _ (hZ o ho _) hE (hK x M' hR ⟨_,hE⟩)
        case skip=>
         obtain⟨M',hE,hR⟩:=h3
         exact h _ _ _ (hZ o ho _) hE (hK undef M' hR ⟨_,hE⟩)
        case enter f args=>
         exact h3.mono fun e w''⟨x,M',he,hE,hR⟩=>by
          subst he
          exact h _ _ _ (hZ o ho _) hE (hK x M' hR ⟨_,hE⟩)
       |halt x w'=>simp only[q8i]at h3
     · have h3:=hv u (hu.sub hM0)
       unfold Oper.wp
       generalize (execOp a.eval o).run P u=r at *
       cases r with
       | ok n w'=>
        cases n<;>simp only[x2g]at h3<;>simp only[Oper.upon]
        case enter f args=>
         obtain⟨e1,hc⟩:=h3
         rw[e1]
         exact hc.mono fun e w''⟨c,he,hE⟩=>by
          subst he
          exact hP _ _ hE
       |halt x w'=>
        cases x<;>simp only[x2g]at h3<;>simp only[Oper.upon]
        case panic v=>exact hP _ _ h3
   · rename_i hw;simp only[hw]at hh;exact h _ _ _ (hZ o ho _) hu hh
def AlikeA(ops:Array Oper)(a a':Act):Prop:=a'.defers=a.defers∧ ∀t,(ops.all fun o=>o.dst !=some t)=true→a'.tmps[t]?=a.tmps[t]?
theorem AlikeA.refl(a:Act):AlikeA ops a a:=⟨rfl,fun _ _=>rfl⟩
theorem AlikeA.put{a a':Act}(h:AlikeA ops a a'){i:Nat}{o:Oper}(ho:ops[i]?=some o)(v:Value):AlikeA ops a (a'.put o.dst v):=by
 refine⟨?_,fun t ht=>?_⟩
 · rw[←h.1]
   cases o.dst<;>rfl
 · rw[←h.2 t ht]
   have h1:=Array.all_eq_true_iff_forall_mem.1 ht o (Array.mem_of_getElem? ho)
   cases hd:o.dst with
   |none=>rfl
   |some d=>
    rw[hd]at h1
    have hne:d≠t:=fun e=>by subst e;simp at h1
    simp[Act.put,Array.getElem?_setIfInBounds_ne hne]
theorem j7m{Q:Act→j0e→Prop}{Q':Exit→Act→World→Prop}{a0:Act}(hP: ∀a,AlikeA ops a0 a→ ∀c u,Γ.post c u→Q' (.panic c) a u)(hQ: ∀a M u,EnvX w0 u M→Q a M→Q' .normal a u):
  ∀(f:Nat)(listed:Array Bool)(a:Act)(M:j0e)(u:World),AlikeA ops a0 a→EnvX w0 u M→j1s (Γ:=Γ) P md ops w0 Q f listed a M→wpAny P md ops Q' f listed a u
 |0,_,_,_,_,_,hu,h=>⟨h.1,hQ _ _ _ hu h.2⟩
 |f+1,_,_,_,_,hz,hu,h=>⟨fun h0=>hQ _ _ _ hu (h.1 h0),fun i hi=>j7J hu (AlikeA ops a0) hz (fun _ ho v=>hz.put ho v) (hP _ hz) (fun a' M' u' hz' hu'=>j7m hP hQ f _ a' M' u' hz' hu') (h.2 i hi)⟩
theorem q5u{Q:Act→j0e→Prop}{Q':Exit→Act→World→Prop}(hQ: ∀a M u,EnvX w0 u M→Q a M→Q' .normal a u)
  (f:Nat) (listed:Array Bool) (a:Act) (M:j0e) (u:World) (hu:EnvX w0 u M) (h:j1s (Γ:=HP.no) P md ops w0 Q f listed a M):wpAny P md ops Q' f listed a u:=
 j7m (Γ:=HP.no) (fun _ _ _ _ h=>False.elim h) hQ f listed a M u (AlikeA.refl a) hu h
def YieldsH(P:Program)(ops:Array Oper)(w0:World)(M0:j0e)(o:Oper)(v:Value)(a:Act):Prop:=
  (Region.wanted o (yielded ops a.tmps)=true∧ ∀u,EnvX w0 u M0→GAt P o a v u)∨
  (Region.wanted o (yielded ops a.tmps)=false∧v=undef)
theorem YieldsH.hOp{i:Nat}{o:Oper}{v:Value}{a:Act}{M0 M:j0e}(hi:ops[i]?=some o)(hM: ∀x∈M0,x∈M)(hy:YieldsH P ops w0 M0 o v a){K:Act→j0e→Prop}(h:K (a.put o.dst v) M):hOp (Γ:=Γ) P ops w0 i K a M:=by
 unfold Go.Proofs.YtojmeodoenkapaaGreatDoor.hOp
 simp only[hi]
 rcases hy with ⟨hw,hv⟩|⟨hw,rfl⟩
 · simp only[hw,if_true];exact .inl ⟨v,M0,hM,hv,h⟩
 · simp only[hw,Bool.false_eq_true,if_false];exact h
theorem YieldsH.of_same{o:Oper}{v:Value}{a a':Act}{M0:j0e}(hy:YieldsH P ops w0 M0 o v a)(he:execOp a'.eval o=execOp a.eval o)
  (hw:Region.wanted o (yielded ops a'.tmps)=Region.wanted o (yielded ops a.tmps)):YieldsH P ops w0 M0 o v a':=by
 unfold YieldsH GAt at *
 rw[he,hw]
 exact hy
theorem q9h{i:Nat}{a:Act}{M:j0e}{K K':Act→j0e→Prop}(h: ∀a M,K a M→K' a M)(hh:hOp (Γ:=Γ) P ops w0 i K a M):hOp (Γ:=Γ) P ops w0 i K' a M:=by
 unfold hOp at *
 split
 · exact h _ _ (by simpa [*] using hh)
 · rename_i o ho
   simp only[ho]at hh
   split
   · rename_i hw
     simp only[hw,if_true]at hh
     rcases hh with ⟨v,M0,hM0,hv,hK⟩|⟨R,M0,hM0,hv,hK⟩|⟨hs,g,old,cs,t,M',hg,hm,hp,hM',hk,hK⟩|⟨hs,R,hv,hk,hK⟩|h5
     · exact .inl ⟨v,M0,hM0,hv,h _ _ hK⟩
     · exact .inr (.inl ⟨R,M0,hM0,hv,fun x N hR hf hE=>h _ _ (hK x N hR hf hE)⟩)
     · exact .inr (.inr (.inl ⟨hs,g,old,cs,t,M',hg,hm,hp,hM',hk,fun hE=>h _ _ (hK hE)⟩))
     · exact .inr (.inr (.inr (.inl ⟨hs,R,hv,hk,fun x M' hR hE=>h _ _ (hK x M' hR hE)⟩)))
     · exact .inr (.inr (.inr (.inr h5)))
   · rename_i hw;simp only[hw]at hh;exact h _ _ hh
theorem x2p{j:Nat}{oi oj:Oper}{v:Value}{M0 M:j0e}(hj:ops[j]?=some oj)(hap:oi.apart ops oj=true)
   (hsi: ∀cs b,oi.op≠ .select cs b) (hsj: ∀cs b,oj.op≠ .select cs b) {K:Act→j0e→Prop} {a:Act}
   (hy:YieldsH P ops w0 M0 oi v a) (hM: ∀x∈M0,x∈M) (hst:j3d oj=true→ ∀x∈M0,x∈Γ.keep j) (h:hOp (Γ:=Γ) P ops w0 j K (a.put oi.dst v) M):
   hOp (Γ:=Γ) P ops w0 j (fun a' M'=>YieldsH P ops w0 M0 oi v a'∧(∀x∈M0,x∈M')∧K (a'.put oi.dst v) M') a M:=by
 obtain⟨h1,h2,h3⟩:=Oper.apart_spec hap
 have keep: ∀(a:Act),YieldsH P ops w0 M0 oi v a→ ∀u,YieldsH P ops w0 M0 oi v (a.put oj.dst u):=fun a hy u=>
   hy.of_same (execOp_put oi hsi a oj.dst u h3) (wanted_put oi a oj.dst u h3)
 have hex:=execOp_put (ops:=ops) oj hsj a oi.dst v h1
 unfold hOp at *
 simp only[hj]at *
 rw[wanted_put oj a oi.dst v h1]at h
 split
 · rename_i hw
   simp only[hw,if_true]at h
   rcases h with ⟨x,M1,hM1,hx,hK⟩|⟨R,M1,hM1,hx,hK⟩|⟨hs,g,old,cs,t,M',hg,hm,hp,hM',hk,hK⟩|⟨hs,R,hx,hk,hK⟩|⟨M1,hM1,hx⟩
   · refine .inl ⟨x,M1,hM1,?_,keep a hy x,hM,by rw[←Act.put_comm a v x h2];exact hK⟩
     unfold GAt at *
     rw[hex]at hx
     exact hx
   · refine .inr (.inl ⟨R,M1,hM1,?_,fun x N hR hf hE=>⟨keep a hy _,fun y hy'=>List.mem_append_right _ (hM y hy'),by rw[←Act.put_comm a v _ h2];exact hK x N hR hf hE⟩⟩)
     unfold FAt at *
     rw[hex]at hx
     exact hx
   · refine .inr (.inr (.inl ⟨hs,g,old,cs,t,M',hg,hm,?_,hM',hk,fun hE=>⟨keep a hy _,fun y hy'=>hk y (hst hs y hy') (hM y hy'),by rw[←Act.put_comm a v _ h2];exact hK hE⟩⟩))
     unfold q9N at *
     rw[hex]at hp
     exact hp
   · refine .inr (.inr (.inr (.inl ⟨hs,R,fun u hu=>?_,hk,fun x M' hR hE=>⟨keep a hy _,fun y hy'=>hk x M' hR y (hst hs y hy') (hM y hy'),by rw[←Act.put_comm a v _ h2];exact hK x M' hR hE⟩⟩)))
     have hr:=hx u hu
     rw[hex]at hr
     exact hr
   · refine .inr (.inr (.inr (.inr ⟨M1,hM1,fun u hu=>?_⟩)))
     have hr:=hx u hu
     rw[hex]at hr
     exact hr
 · rename_i hw
   simp only[hw]at h
   exact⟨keep a hy _,hM,by rw[←Act.put_comm a v undef h2];exact h⟩
theorem j30 {Q:Act→j0e→Prop} {i:Nat} {oi:Oper} {v:Value} {M0:j0e} (hi:ops[i]?=some oi) (hsel: ∀(j:Nat)(o:Oper) cs b,ops[j]?=some o→o.op≠ .select cs b):
  ∀ (fuel:Nat) (listed:Array Bool) (a:Act) (M:j0e),j3N md ops listed→(∀x∈M0,x∈M)→
    (∀j oj,ops[j]?=some oj→j≠i→listed.getD j true=false→q5f md ops ops.size j i=true∨(oi.apart ops oj=true∧(M0=[]∨j3d oj=false∨ ∀x∈M0,x∈Γ.keep j)))→
    i∈Region.ready md ops listed→YieldsH P ops w0 M0 oi v a→
    j1s (Γ:=Γ) P md ops w0 Q fuel (listed.setIfInBounds i true) (a.put oi.dst v) M→j1s (Γ:=Γ) P md ops w0 Q (fuel+1) listed a M:=by
 intro fuel
 induction fuel with
 |zero=>
  intro listed a M _ hM _ hr hy H
  refine⟨fun h=>(by rw[h]at hr;cases hr),fun j hj=>?_⟩
  by_cases hji:j=i
  · subst hji;exact hy.hOp hi hM H
  · have:=ready_mono hj hji
    rw[H.1]at this
    cases this
 | succ fuel ih=>
  intro listed a M hcl hM hfree hr hy H
  refine⟨fun h=>(by rw[h]at hr;cases hr),fun j hj=>?_⟩
  by_cases hji:j=i
  · subst hji;exact hy.hOp hi hM H
  · have h1:=H.2 j (ready_mono hj hji)
    obtain⟨hjun,oj,hoj,hall⟩:=mem_ready.1 hj
    have h0:=(mem_ready.1 hr).1
    have hno: ¬q5f md ops ops.size j i=true:=fun ha=>by
      have hl:=j6u hcl (i:=i) ops.size j (fun o ho e he hb=>by
        have:o=oj:=Option.some.inj (ho.symm.trans hoj)
        subst this
        exact hall e he hb) ha
      rcases Nat.lt_or_ge i listed.size with h'|h'
      · simp[h']at h0 hl;rw[h0]at hl;cases hl
      · simp[Array.getElem?_eq_none h']at hl
    rcases hfree j oj hoj hji hjun with hf|⟨hap,hps⟩
    · exact absurd hf hno
    · have hst:j3d oj=true→ ∀x∈M0,x∈Γ.keep j:=fun hs=>by
        rcases hps with hp'|hn|hn
        · rw[hp'];exact fun _ h=>(by cases h)
        · rw[hn]at hs;cases hs
        · exact hn
      have h2:=x2p hoj hap (fun cs b=>hsel i oi cs b hi) (fun cs b=>hsel j oj cs b hoj) hy hM hst h1
      have hfree': ∀k ok,ops[k]?=some ok→k≠i→(listed.setIfInBounds j true).getD k true=false→q5f md ops ops.size k i=true∨(oi.apart ops ok=true∧(M0=[]∨j3d ok=false∨ ∀x∈M0,x∈Γ.keep k)):=fun k ok hk hki hun=>by
        refine hfree k ok hk hki ?_
        by_cases hjk:j=k
        · subst hjk;exact hjun
        · rw[getD_set_ne true hjk]at hun;exact hun
      refine q9h (fun a' M' h3=>ih (listed.setIfInBounds j true) a' M' (j17 hcl hj) h3.2.1 hfree' (ready_mono hr (Ne.symm hji)) h3.1 ?_) h2
      rw[Array.setIfInBounds_comm _ _ hji]
      exact h3.2.2
theorem j4j {Q:Act→j0e→Prop} {l:List Oper} (hs:Region.noSelect l.toArray=true) {L:j0e} {s0:World} (h0:EnvX w0 s0 L): ∀(ord:List Nat)(f:Nat)(listed:Array Bool)(a:Act),j3N md l.toArray listed→
  q6u md l.toArray ord listed=true→j4C P l (EnvC w0 L) (fun a'=>j1s (Γ:=Γ) P md l.toArray w0 Q f (j2g ord listed) a' L) ord a→j1s (Γ:=Γ) P md l.toArray w0 Q (ord.length+f) listed a L
 |[],f,listed,a,_,_,h=>by simpa [j4C,j2g] using h
 | i :: ord,f,listed,a,hcl,hB,h=>by
  simp only[q6u,Bool.and_eq_true]at hB
  obtain⟨⟨hr,hf⟩,hB'⟩:=hB
  have hr':i∈Region.ready md l.toArray listed:=by simpa using hr
  unfold j4C at h
  cases hl:l[i]? with
  |none=>simp only[hl]at h
  |some o=>
   simp only[hl]at h
   have ho:l.toArray[i]?=some o:=by simpa using hl
   have hpp:(l.toArray[i]?.map j7h).getD false=j7h o:=by rw[ho];rfl
   rw[hpp]at hf
   have hlen:(i::ord).length+f=(ord.length+f)+1:=by simp only[List.length_cons];omega
   rw[hlen]
   have hfr:=j4X ho hf
   by_cases hw:Region.wanted o (yielded l.toArray a.tmps)=true
   · simp only[hw,if_true]at h
     obtain⟨v,hv,hK⟩:=h
     by_cases hpu:j7h o=true
     · exact j30 (M0:=[]) ho (Region.noSelect_spec hs) _ listed a L hcl (fun _ h=>by cases h) (fun j oj h1 h2 h3=>(hfr j oj h1 h2 h3).imp id (fun k=>⟨k.1, .inl rfl⟩)) hr' (.inl ⟨hw,fun u _=>q3D hpu (hv s0 h0) u⟩)
        (j4j hs h0 ord f _ _ (j17 hcl hr') hB' hK)
     · exact j30 (M0:=L) ho (Region.noSelect_spec hs) _ listed a L hcl (fun _ h=>h) (fun j oj h1 h2 h3=>(hfr j oj h1 h2 h3).imp id (fun k=>⟨k.1, .inr (.inl (k.2.resolve_left hpu))⟩)) hr' (.inl ⟨hw,hv⟩)
        (j4j hs h0 ord f _ _ (j17 hcl hr') hB' hK)
   · simp only[hw,Bool.false_eq_true,if_false]at h
     have hw':Region.wanted o (yielded l.toArray a.tmps)=false:=by simpa using hw
     exact j30 (M0:=[]) ho (Region.noSelect_spec hs) _ listed a L hcl (fun _ h=>by cases h) (fun j oj h1 h2 h3=>(hfr j oj h1 h2 h3).imp id (fun k=>⟨k.1, .inl rfl⟩)) hr' (.inr ⟨hw',rfl⟩)
        (j4j hs h0 ord f _ _ (j17 hcl hr') hB' h)
def j4F (md:Region.Mode) (ops:Array Oper) (listed:Array Bool):Bool:=
  (List.range ops.size).all fun j=>!listed.getD j false||match ops[j]? with
    |some oj=>oj.after.all fun e=>!Region.binds md e||listed.getD e.on false
    |none=>true
theorem j8m{listed:Array Bool}(h:j4F md ops listed=true):j3N md ops listed:=by
 intro j oj hj hl e he hb
 simp only[j4F,List.all_eq_true,List.mem_range]at h
 have h1:=h j (Array.getElem?_eq_some_iff.1 hj).1
 simp only[hl,hj,Bool.not_true,Bool.false_or]at h1
 have h2:=Array.all_eq_true_iff_forall_mem.1 h1 e he
 simpa [hb] using h2
theorem j8s{Q:Act→j0e→Prop}{l:List Oper}{F:Nat}(ord:List Nat)(f:Nat){L:j0e}{listed:Array Bool}{a:Act}(hF:F=ord.length+f)(h0: ∃u,EnvX w0 u L)
  (hB:(Region.noSelect l.toArray&& j4F md l.toArray listed&& q6u md l.toArray ord listed)=true)
  (h:wpG P l (EnvC w0 L) (fun a'=>j1s (Γ:=Γ) P md l.toArray w0 Q f (j2g ord listed) a' L) ord a):j1s (Γ:=Γ) P md l.toArray w0 Q F listed a L:=by
 subst hF
 simp only[Bool.and_eq_true]at hB
 obtain⟨s0,hs0⟩:=h0
 exact j4j hB.1.1 hs0 ord f listed a (j8m hB.1.2) hB.2 h.out
theorem j7v{id:Nat}{Q:Exit→Act→World→Prop}{a:Act}{w:World}{l:List Oper}(L:j0e)(hm:P.follows .mixedOrders=true)(hE:EnvX w0 w L)
  (h:j1s (Γ:=HP.no) P .any l.toArray w0 (fun a M=> ∀u,EnvX w0 u M→Q .normal a u) l.toArray.size (Array.replicate l.toArray.size false) a L):
  (Code.region id l.toArray true).wp P Q a w:=
 wp_region_any hm (q5u (w0:=w0) (Q:=fun a M=> ∀u,EnvX w0 u M→Q .normal a u) (fun _ _ u hu hh=>hh u hu) _ _ _ L _ hE.drew h)
def j1E{Γ:HP}(P:Program)(ops:Array Oper)(w0:World)(Q:Act→j0e→Prop):List Nat→Act→j0e→Prop
  |[],a,M=>Q a M
  |i::rest,a,M=>hOp (Γ:=Γ) P ops w0 i (j1E (Γ:=Γ) P ops w0 Q rest) a M
theorem j5j{Q:Act→j0e→Prop}{Q':Exit→Act→World→Prop}{a0:Act}(hP: ∀a,AlikeA ops a0 a→ ∀c u,Γ.post c u→Q' (.panic c) a u)(hQ: ∀a M u,EnvX w0 u M→Q a M→Q' .normal a u):
  ∀(l:List Nat)(a:Act)(M:j0e)(u:World),AlikeA ops a0 a→EnvX w0 u M→j1E (Γ:=Γ) P ops w0 Q l a M→wpOps P ops Q' l a u
 |[],_,_,_,_,hu,h=>hQ _ _ _ hu h
 |i::l,_,_,_,hz,hu,h=>by
  rw[wpOps_cons]
  exact j7J hu (AlikeA ops a0) hz (fun _ ho v=>hz.put ho v) (hP _ hz) (fun a' M' u' hz' hu'=>j5j hP hQ l a' M' u' hz' hu') h
theorem j5k{l:List Oper}{Q:Act→j0e→Prop}{L:j0e}(rest:List Nat): ∀(ord:List Nat)(a:Act),j4C P l (EnvC w0 L) (fun a'=>j1E (Γ:=Γ) P l.toArray w0 Q rest a' L) ord a→j1E (Γ:=Γ) P l.toArray w0 Q (ord++rest) a L
 |[],a,h=>h
 | i ::ord,a,h=>by
  unfold j4C at h
  show hOp (Γ:=Γ) P l.toArray w0 i (j1E (Γ:=Γ) P l.toArray w0 Q (ord++rest)) a L
  unfold hOp
  cases hl:l[i]? with
  |none=>simp only[hl]at h
  |some o=>
   simp only[hl]at h
   have ho:l.toArray[i]?=some o:=by simpa using hl
   simp only[ho]
   split
   · rename_i hw
     simp only[hw,if_true]at h
     obtain⟨v,hv,hK⟩:=h
     exact .inl ⟨v,L,fun _ h=>h,hv,j5k rest ord _ hK⟩
   · rename_i hw
     simp only[hw]at h
     exact j5k rest ord _ h
theorem j8G{l:List Oper}{Q:Act→j0e→Prop}{L:j0e}(ord rest:List Nat){a:Act}(h:wpG P l (EnvC w0 L) (fun a'=>j1E (Γ:=Γ) P l.toArray w0 Q rest a' L) ord a):j1E (Γ:=Γ) P l.toArray w0 Q (ord++rest) a L:=
 j5k rest ord a h.out
theorem j07{id:Nat}{Q:Exit→Act→World→Prop}{a:Act}{w:World}{l:List Oper}(all:List Nat)(L:j0e)(hr:List.range l.toArray.size=all)(hE:EnvX w0 w L)
  (h:j1E (Γ:=HP.no) P l.toArray w0 (fun a M=> ∀u,EnvX w0 u M→Q .normal a u) all a L):(Code.region id l.toArray false).wp P Q a w:=
 wp_region (by rw[hr];exact j5j (Γ:=HP.no) (w0:=w0) (Q:=fun a M=> ∀u,EnvX w0 u M→Q .normal a u) (fun _ _ _ _ h=>False.elim h) (fun _ _ u hu hh=>hh u hu) _ a L w (AlikeA.refl a) hE h)
section
variable {Q:Act→j0e→Prop}{f:Nat}{listed:Array Bool}{a:Act}{M:j0e}{K:Act→j0e→Prop}{i:Nat}{dst:Option Tmp}{op:Op}{ty:TypeId}{pos:String}{after:Array Edge}
theorem q03(hr:Region.ready md ops listed=[])(h:Q a M):j1s (Γ:=Γ) P md ops w0 Q 0 listed a M:=⟨hr,h⟩
theorem j9A(hr:Region.ready md ops listed=[i])(h:hOp (Γ:=Γ) P ops w0 i (j1s (Γ:=Γ) P md ops w0 Q f (listed.setIfInBounds i true)) a M):j1s (Γ:=Γ) P md ops w0 Q (f+1) listed a M:=
 ⟨(fun h0=>by rw[hr]at h0;cases h0),(fun j hj=>by rw[hr]at hj;cases List.mem_singleton.1 hj;exact h)⟩
theorem j2L{j:Nat}(hr:Region.ready md ops listed=[i,j])(h:hOp (Γ:=Γ) P ops w0 i (j1s (Γ:=Γ) P md ops w0 Q f (listed.setIfInBounds i true)) a M)
  (h':hOp (Γ:=Γ) P ops w0 j (j1s (Γ:=Γ) P md ops w0 Q f (listed.setIfInBounds j true)) a M):j1s (Γ:=Γ) P md ops w0 Q (f+1) listed a M:=
 ⟨(fun h0=>by rw[hr]at h0;cases h0),(fun k hk=>by
  rw[hr]at hk
  rcases List.mem_cons.1 hk with e|e
  · cases e;exact h
  · cases List.mem_singleton.1 e;exact h')⟩
theorem j0k{o:Oper}(R:Value→j0e→Prop)(M0:j0e)(ho:ops[i]?=some o)(heq:o=⟨dst,op,ty,pos,after,none⟩)(hM: ∀x∈M0,x∈M)(hv: ∀u,EnvX w0 u M0→FAt P ⟨dst,op,ty,pos,after,none⟩ a R u)
  (h: ∀x N,R x N→j01 w0 N M→(∃u,EnvX w0 u (N++M))→ ∀K':Act→Prop,(∀a',K a' (N++M)→K' a')→Oper.quiet P ⟨dst, .move (.const x),ty,pos,after,none⟩ a (fun _=>True) K'):hOp (Γ:=Γ) P ops w0 i K a M:=by
 subst heq
 unfold hOp
 simp only[ho,Region.wanted,if_true]
 exact .inr (.inl ⟨R,M0,hM,hv,fun x N hR hf hE=>j44 (K:=fun a'=>K a' (N++M)) w0 (h x N hR hf hE)⟩)
theorem q5d{o:Oper}{gd:Option (Nat × Bool)}(R:Value→j0e→Prop)(M0:j0e)(ho:ops[i]?=some o)(heq:o=⟨dst,op,ty,pos,after,gd⟩)(hw:Region.wanted ⟨dst,op,ty,pos,after,gd⟩ (yielded ops a.tmps)=true)(hM: ∀x∈M0,x∈M)(hv: ∀u,EnvX w0 u M0→FAt P ⟨dst,op,ty,pos,after,gd⟩ a R u)
  (h: ∀x N,R x N→j01 w0 N M→(∃u,EnvX w0 u (N++M))→ ∀K':Act→Prop,(∀a',K a' (N++M)→K' a')→Oper.quiet P ⟨dst, .move (.const x),ty,pos,after,none⟩ a (fun _=>True) K'):hOp (Γ:=Γ) P ops w0 i K a M:=by
 subst heq
 unfold hOp
 simp only[ho,hw,if_true]
 exact .inr (.inl ⟨R,M0,hM,hv,fun x N hR hf hE=>j44 (K:=fun a'=>K a' (N++M)) w0 (h x N hR hf hE)⟩)
theorem j03{o:Oper}{gd:Option (Nat × Bool)}(R:Value→j0e→Prop)(ho:ops[i]?=some o)(heq:o=⟨dst,op,ty,pos,after,gd⟩)(hst:j3d o=true)(hw:Region.wanted ⟨dst,op,ty,pos,after,gd⟩ (yielded ops a.tmps)=true)
  (hv: ∀u,EnvX w0 u M→ ∃x u' M',(execOp a.eval ⟨dst,op,ty,pos,after,gd⟩).run P u= .ok (.value x) u'∧EnvX w0 u' M'∧R x M')
  (h: ∀x M',R x M'→(∃u,EnvX w0 u M')→ ∀K':Act→Prop,(∀a',K a' M'→K' a')→Oper.quiet P ⟨dst, .move (.const x),ty,pos,after,none⟩ a (fun _=>True) K') (hkeep: ∀x M',R x M'→ ∀y∈Γ.keep i,y∈M→y∈M':=by exact q3s):hOp (Γ:=Γ) P ops w0 i K a M:=by
 subst heq
 unfold hOp
 simp only[ho,hw,if_true]
 exact .inr (.inr (.inr (.inl ⟨hst,R,fun u hu=>(by
  obtain⟨x,u',M',hr,hE⟩:=hv u hu
  rw[hr]
  exact⟨M',hE⟩),hkeep,fun x M' hR hE=>j44 (K:=fun a'=>K a' M') w0 (h x M' hR hE)⟩)))
theorem j0X{o:Oper}{gd:Option (Nat × Bool)}(R:Value→j0e→Prop)(ho:ops[i]?=some o)(heq:o=⟨dst,op,ty,pos,after,gd⟩)(hst:j3d o=true)(hw:Region.wanted ⟨dst,op,ty,pos,after,gd⟩ (yielded ops a.tmps)=true)
  (hv: ∀u,EnvX w0 u M→q8i P w0 R ((execOp a.eval ⟨dst,op,ty,pos,after,gd⟩).run P u))
  (h: ∀x M',R x M'→(∃u,EnvX w0 u M')→ ∀K':Act→Prop,(∀a',K a' M'→K' a')→Oper.quiet P ⟨dst, .move (.const x),ty,pos,after,none⟩ a (fun _=>True) K') (hkeep: ∀x M',R x M'→ ∀y∈Γ.keep i,y∈M→y∈M':=by exact q3s):hOp (Γ:=Γ) P ops w0 i K a M:=by
 subst heq
 unfold hOp
 simp only[ho,hw,if_true]
 exact .inr (.inr (.inr (.inl ⟨hst,R,hv,hkeep,fun x M' hR hE=>j44 (K:=fun a'=>K a' M') w0 (h x M' hR hE)⟩)))
theorem q2K{ty':TypeId}{x y:Operand}(ho:ops[i]?=some ⟨none, .store ty' x y,ty,pos,after,none⟩)
  (g k:Nat) (v:Value) (hx:a.eval x= .pointer (some ⟨g,k,none⟩)) (hy:a.eval y=v) (hg:w0.heap.size≤g) (t:TypeId) (old cs:Array Value) (hm:(g,Obj.cells old t (0,0))∈M)
  (hi:(P.info? ty').map (·.size)=some v.cells.size) (hk:k+v.cells.size≤old.size) (h1:v.cells.all (·.oneCell')=true) (hcs:old.toList.take k++v.cells.toList++old.toList.drop (k+v.cells.size)=cs.toList) (M':j0e) (hM': ∀x∈M',x=(g,Obj.cells cs t (0,0))∨(x∈M∧x.1≠g))
  (h:(∃u,EnvX w0 u M')→K (a.put none undef) M') (hkeep: ∀x∈Γ.keep i,x∈M→x∈M':=by exact q2q):hOp (Γ:=Γ) P ops w0 i K a M:=by
 unfold hOp
 simp only[ho,Region.wanted,if_true]
 refine .inr (.inr (.inl ⟨rfl,g,old,cs,t,M',hg,hm,fun u hu=>?_,hM',hkeep,h⟩))
 have hst:=run_storeCells_at P g k t v.cells.toList 0 old u hu (by simpa using hk) (fun z hz=>(Array.all_eq_true_iff_forall_mem.1 h1) z (by simpa using hz))
 have hsv:(storeVar ty' ⟨g,k,none⟩ v).run P u= .ok () (u.setRow g cs):=by
  have e:(old.toList.take (k+0)++v.cells.toList++old.toList.drop (k+0+v.cells.toList.length)).toArray=cs:=by
   rw[Nat.add_zero,Array.length_toList,hcs,Array.toArray_toList]
  rw[e]at hst
  cases hq:P.info? ty' with
  |none=>simp[hq]at hi
  |some i=>
   have hs:v.cells.size=i.size:=by simp[hq]at hi;omega
   simp[storeVar,sizeOf,typeInfo,hq,hs,hst]
 unfold execOp
 simp only[hx,hy,Instr.storeAt,Instr.sureAddr,Sem.run_bind,Sem.run_pure,Result.andThen_ok,hsv]
theorem j4k{z:Obj}{o:Oper}(hz:j3r P o a z)(u:World):FAt P o a (fun x N=> ∃g,x= .pointer (some ⟨g,0,none⟩)∧N=[(g,z)]) u:=by
 unfold FAt
 rw[hz u]
 refine⟨(Below.refl _ _).alloc (Nat.le_refl _) _,_,⟨_,rfl,rfl⟩,fun y hy=>?_⟩
 cases List.mem_singleton.1 hy
 exact⟨Nat.le_refl _,heap_alloc_new u z⟩
theorem x2C(z:Obj)(ho:ops[i]?=some ⟨dst,op,ty,pos,after,none⟩)(hz:j3r P ⟨dst,op,ty,pos,after,none⟩ a z)
  (h: ∀g,w0.heap.size≤g→(∀x∈M,x.1≠g)→(∃u,EnvX w0 u ((g,z)::M))→ ∀K':Act→Prop,(∀a',K a' ((g,z)::M)→K' a')→Oper.quiet P ⟨dst, .move (.const (.pointer (some ⟨g,0,none⟩))),ty,pos,after,none⟩ a (fun _=>True) K'):hOp (Γ:=Γ) P ops w0 i K a M:=
 j0k _ [] ho rfl (fun _ h=>by cases h) (fun u _=>j4k hz u) (by
  rintro x N ⟨g,rfl,rfl⟩ hf hE
  exact h g (hf (g,z) (List.mem_singleton.2 rfl)).1 (fun y hy=>(hf (g,z) (List.mem_singleton.2 rfl)).2 y hy) hE)
theorem j6X{fn:Func}{c:Code}{fid:FuncId}{xs:Array Operand}{ats:Array TypeId}{args:Array Value}{R:Value→j0e→Prop}{gd:Option (Nat × Bool)}(hargs:xs.toList.map a.eval=args.toList)(hfn:P.funcs[fid]?=some fn)(hname:(fn.name== "runtime.NumGoroutine")=false)(hb:fn.body=some c)(u:World)
  (hc:Calls P fid args u (fun e w''=> ∃x N,e= .returned x∧R x N∧Below u.heap.size u w''∧ ∀y∈N,u.heap.size≤y.1∧w''.heap[y.1]?=some y.2)):
  FAt P ⟨dst, .call {callee:= .value (.func fid),args:=xs,argTypes:=ats},ty,pos,after,gd⟩ a R u:=by
 have hrun:(execOp a.eval ⟨dst, .call {callee:= .value (.func fid),args:=xs,argTypes:=ats},ty,pos,after,gd⟩).run P u= .ok (.enter fid args) u:=by
  have ha:xs.map a.eval=args:=by
   apply Array.ext'
   rw[Array.toList_map]
   exact hargs
  rw[execOp_call_go]
  simp only[Array.empty_append,Array.append_empty,ha]
  exact j5P hfn hname hb _ u
 unfold FAt
 rw[hrun]
 exact⟨rfl,hc⟩
theorem j0D{fn:Func}{c:Code}{fid:FuncId}{xs:Array Operand}{ats:Array TypeId}{args:Array Value}{R:Value→j0e→Prop}{gd:Option (Nat × Bool)}(hargs:xs.toList.map a.eval=args.toList)(hfn:P.funcs[fid]?=some fn)(hname:(fn.name== "runtime.NumGoroutine")=false)(hb:fn.body=some c)(u:World)
  (hc:Calls P fid args u (fun e w''=> ∃x M',e= .returned x∧EnvX w0 w'' M'∧R x M')):
  q8i P w0 R ((execOp a.eval ⟨dst, .call {callee:= .value (.func fid),args:=xs,argTypes:=ats},ty,pos,after,gd⟩).run P u):=by
 have hrun:(execOp a.eval ⟨dst, .call {callee:= .value (.func fid),args:=xs,argTypes:=ats},ty,pos,after,gd⟩).run P u= .ok (.enter fid args) u:=by
  have ha:xs.map a.eval=args:=by
   apply Array.ext'
   rw[Array.toList_map]
   exact hargs
  rw[execOp_call_go]
  simp only[Array.empty_append,Array.append_empty,ha]
  exact j5P hfn hname hb _ u
 rw[hrun]
 exact hc
theorem j0z{ty':TypeId}{x y:Operand}(ho:ops[i]?=some ⟨none, .store ty' x y,ty,pos,after,none⟩)
  (g:Nat) (cs:Array Value) (hx:a.eval x= .pointer (some ⟨g,0,none⟩)) (hy:a.eval y= .agg cs) (hg:w0.heap.size≤g) (t:TypeId) (old:Array Value) (hm:(g,Obj.cells old t (0,0))∈M)
  (hi:(P.info? ty').map (·.size)=some cs.size) (hold:old.size=cs.size) (h1:cs.all (·.oneCell')=true) (M':j0e) (hM': ∀x∈M',x=(g,Obj.cells cs t (0,0))∨(x∈M∧x.1≠g))
  (h:(∃u,EnvX w0 u M')→K a M') (hkeep: ∀x∈Γ.keep i,x∈M→x∈M':=by exact q2q):hOp (Γ:=Γ) P ops w0 i K a M:=by
 unfold hOp
 simp only[ho,Region.wanted,if_true]
 refine .inr (.inr (.inl ⟨rfl,g,old,cs,t,M',hg,hm,fun u hu=>?_,hM',hkeep,h⟩))
 unfold execOp
 simp only[hx,hy,Instr.storeAt,Instr.sureAddr,Sem.run_bind,Sem.run_pure,Result.andThen_ok,run_storeVar_row u g t ty' old cs hu hi hold h1]
theorem x0u {M M':j0e} (hK: ∀a(M M':j0e),(∀x,x∈M↔x∈M')→K a M→K a M') (hM: ∀x,x∈M↔x∈M') (hh:hOp (Γ:=Γ) P ops w0 i K a M):hOp (Γ:=Γ) P ops w0 i K a M':=by
 unfold hOp at *
 split
 · rename_i h;simp only[h]at hh;exact hK _ _ _ hM hh
 · rename_i o ho
   simp only[ho]at hh
   split
   · rename_i hw
     simp only[hw,if_true]at hh
     rcases hh with ⟨v,M0,h0,hv,h⟩|⟨R,M0,h0,hv,h⟩|⟨hs,g,old,cs,t,N,hg,hm,hp,hN,hk,h⟩|⟨hs,R,hv,hk,h⟩|⟨M0,h0,hv⟩
     · exact .inl ⟨v,M0,fun x hx=>(hM x).1 (h0 x hx),hv,hK _ _ _ hM h⟩
     · exact .inr (.inl ⟨R,M0,fun x hx=>(hM x).1 (h0 x hx),hv,fun x N hR hf hE=>hK _ _ _ (fun y=>by simp only[List.mem_append,hM y])
        (h x N hR (fun y hy=>⟨(hf y hy).1,fun z hz=>(hf y hy).2 z ((hM z).1 hz)⟩) (hE.imp fun u hu=>hu.sub (fun y hy=>by simp only[List.mem_append,hM y]at hy ⊢;exact hy)))⟩)
     · exact .inr (.inr (.inl ⟨hs,g,old,cs,t,N,hg,(hM _).1 hm,hp,fun x hx=>(hN x hx).imp id (fun⟨k1,k2⟩=>⟨(hM _).1 k1,k2⟩),fun x hx hm'=>hk x hx ((hM x).2 hm'),h⟩))
     · exact .inr (.inr (.inr (.inl ⟨hs,R,fun u hu=>hv u (hu.sub fun x hx=>(hM x).1 hx),fun x M' hR y hy hm'=>hk x M' hR y hy ((hM y).2 hm'),h⟩)))
     · exact .inr (.inr (.inr (.inr ⟨M0,fun x hx=>(hM x).1 (h0 x hx),hv⟩)))
   · rename_i hw;simp only[hw]at hh;exact hK _ _ _ hM hh
theorem q0u(hQ: ∀a(M M':j0e),(∀x,x∈M↔x∈M')→Q a M→Q a M'): ∀(f:Nat)(listed:Array Bool)(a:Act)(M M':j0e),(∀x,x∈M↔x∈M')→
  j1s (Γ:=Γ) P md ops w0 Q f listed a M→j1s (Γ:=Γ) P md ops w0 Q f listed a M'
 |0,_,_,_,_,hM,h=>⟨h.1,hQ _ _ _ hM h.2⟩
 |f+1,_,_,_,_,hM,h=>⟨fun h0=>hQ _ _ _ hM (h.1 h0),fun i hi=>x0u (fun a' M1 M2 h12 h'=>q0u hQ f _ a' M1 M2 h12 h') hM (h.2 i hi)⟩
theorem q2M{Q':Exit→Act→World→Prop}(a:Act)(M M':j0e)(hM: ∀x,x∈M↔x∈M')(h: ∀u,EnvX w0 u M→Q' .normal a u): ∀u,EnvX w0 u M'→Q' .normal a u:=
 fun u hu=>h u (hu.sub (fun x hx=>(hM x).1 hx))
end
end
section
variable {P:Program}{Γ:HP}{md:Region.Mode}{w0 u0:World}{L:j0e}{id:Nat}{R:Exit→Act→World→Prop}{Q:Act→j0e→Prop}{a:Act}{w:World}{l:List Oper}{ops:Array Oper}{C:World→Prop}{listed:Array Bool}{F:Nat}
theorem rgP(ord rest:List Nat)(hE:Hid (EnvX w0 w L))(hr:List.range l.toArray.size=ord++rest)
  (h:EnvX w0 w L→(∀x y:Value,(∀v,EnvC w0 L v→x=y) ↔x=y)→wpG P l (EnvC w0 L) (fun a'=>j1E (Γ:=HP.no) P l.toArray w0 (fun a M=> ∀u,EnvX w0 u M→R .normal a u) rest a' L) ord a):(Code.region id l.toArray false).wp P R a w:=
 j07 (w0:=w0) (ord++rest) L hr hE.out (j8G ord rest (h hE.out (@EnvC.one _ _ _ hE.out)))
theorem phP(ord rest:List Nat)(hw:EnvX w0 u0 L)
  (h:(∀x y:Value,(∀v,EnvC w0 L v→x=y) ↔x=y)→wpG P l (EnvC w0 L) (fun a'=>j1E (Γ:=Γ) P l.toArray w0 Q rest a' L) ord a):j1E (Γ:=Γ) P l.toArray w0 Q (ord++rest) a L:=
 j8G ord rest (h (@EnvC.one _ _ _ hw))
theorem enP(h: ∀u,Hid (EnvX w0 u L)→R .normal a u):wpG P l C (fun a'=>j1E (Γ:=Γ) P ops w0 (fun a M=> ∀u,EnvX w0 u M→R .normal a u) [] a' L) [] a:=⟨fun u hu=>h u hu⟩
theorem enL(h: ∀u,Hid (EnvX w0 u L)→R .normal a u):j1E (Γ:=Γ) P ops w0 (fun a M=> ∀u,EnvX w0 u M→R .normal a u) [] a L:=fun u hu=>h u hu
theorem rgH(ord:List Nat)(f:Nat)(hE:Hid (EnvX w0 w L))(hF:l.toArray.size=ord.length+f)(hm:P.follows .mixedOrders=true)
  (hB:(Region.noSelect l.toArray&& j4F .any l.toArray (Array.replicate l.toArray.size false) && q6u .any l.toArray ord (Array.replicate l.toArray.size false))=true)
  (h:EnvX w0 w.drew L→(∀x y:Value,(∀v,EnvC w0 L v→x=y) ↔x=y)→wpG P l (EnvC w0 L) (fun a'=>j1s (Γ:=HP.no) P .any l.toArray w0 (fun a M=> ∀u,EnvX w0 u M→R .normal a u) f (j2g ord (Array.replicate l.toArray.size false)) a' L) ord a):(Code.region id l.toArray true).wp P R a w:=
 j7v (w0:=w0) L hm hE.out (j8s ord f hF ⟨_,EnvX.drew hE.out⟩ hB (h (EnvX.drew hE.out) (@EnvC.one _ _ _ (EnvX.drew hE.out))))
theorem phH(ord:List Nat)(f:Nat)(hF:F=ord.length+f)(hw:EnvX w0 u0 L)(hB:(Region.noSelect l.toArray&& j4F md l.toArray listed&& q6u md l.toArray ord listed)=true)
  (h:(∀x y:Value,(∀v,EnvC w0 L v→x=y) ↔x=y)→wpG P l (EnvC w0 L) (fun a'=>j1s (Γ:=Γ) P md l.toArray w0 Q f (j2g ord listed) a' L) ord a):j1s (Γ:=Γ) P md l.toArray w0 Q F listed a L:=
 j8s ord f hF ⟨_,hw⟩ hB (h (@EnvC.one _ _ _ hw))
theorem enH(hr:Region.ready md ops listed=[])(h: ∀u,Hid (EnvX w0 u L)→R .normal a u):wpG P l C (fun a'=>j1s (Γ:=Γ) P md ops w0 (fun a M=> ∀u,EnvX w0 u M→R .normal a u) 0 listed a' L) [] a:=
 j0b (q03 (Q:=fun a M=> ∀u,EnvX w0 u M→R .normal a u) hr fun u hu=>h u hu)
theorem enM(hr:Region.ready md ops listed=[])(h: ∀u,Hid (EnvX w0 u L)→R .normal a u):j1s (Γ:=Γ) P md ops w0 (fun a M=> ∀u,EnvX w0 u M→R .normal a u) 0 listed a L:=q03 (Q:=fun a M=> ∀u,EnvX w0 u M→R .normal a u) hr fun u hu=>h u hu
end
abbrev oc(cs:Array Value)(t:TypeId):Obj:=Obj.cells cs t (0,0)
theorem nl{w0 u:World}{M:j0e}(h:EnvX w0 u M):EnvX w0 u []:=EnvX.sub h (fun _ h=>by cases h)
section
variable {α:Type}{a b:α}{s t:List α}{p:α→Prop}
theorem mH:a∈a::s:=List.Mem.head _
theorem mT(h:a∈s):a∈b::s:=List.Mem.tail _ h
theorem mR(h:a∈t):a∈s++t:=List.mem_append_right _ h
theorem mL(h:a∈s):a∈s++t:=List.mem_append_left _ h
theorem mS:a∈[b] ↔a=b:=List.mem_singleton
theorem gE{i:Nat}(h:i<s.length):s[i]?=some s[i]:=List.getElem?_eq_getElem h
theorem gD{i:Nat}:s.getD i a=s[i]?.getD a:=List.getD_eq_getElem?_getD
theorem gN{i:Nat}(h:s.length≤i):s[i]?=none:=List.getElem?_eq_none h
theorem lA:(s++t).length=s.length+t.length:=List.length_append
theorem aA{r:List α}:s++t++r=s++(t++r):=List.append_assoc ..
theorem tL{i:Nat}(h:s.length≤i):s.take i=s:=List.take_of_length_le h
theorem mA(h:p a∧ ∀x∈s,p x): ∀x∈a::s,p x:=List.forall_mem_cons.2 h
end
section
variable {P:Program}{l:List Oper}{C:World→Prop}{Q:Act→Prop}{a a':Act}{i:Nat}{rest:List Nat}{dst:Option Tmp}{op:Op}{ty:TypeId}{pos:String}{after:Array Edge}{gd:Option (Nat × Bool)}{u0:World}{v:Value}
theorem x4s(h: ∃u,C u): ∀x y:Value,(∀v,C v→x=y) ↔x=y:=fun _ _=>⟨fun k=>k _ h.choose_spec,fun k _ _=>k⟩
theorem qv(ho:l[i]?=some ⟨dst,op,ty,pos,after,gd⟩)(hv: ∀u,C u→(execOp a.eval ⟨dst,op,ty,pos,after,gd⟩).run P u= .ok (.value v) u)(h0: ∃u,C u)(k:wpG P l C Q rest a')
  (hw:Region.wanted ⟨dst,op,ty,pos,after,gd⟩ (yielded l.toArray a.tmps)=true:=by rfl)
  (hq:(∀x y:Value,(∀v,C v→x=y) ↔x=y)→ ∀K:Act→Prop,(∀b,b=a'→K b)→Oper.quiet P ⟨dst, .move (.const v),ty,pos,after,gd⟩ a C K:=by intro hone K hK;go_big_quiet_op;go_big_quiet_on;rfl):wpG P l C Q (i::rest) a:=
 j6a ho hw hv (fun K hK=>hq (x4s h0) K (fun b e=>by subst e;exact hK _ k)) h0.choose_spec
theorem qo(ho:l[i]?=some ⟨dst,op,ty,pos,after,gd⟩)(h0: ∃u,C u)(k:wpG P l C Q rest a')
  (hw:Region.wanted ⟨dst,op,ty,pos,after,gd⟩ (yielded l.toArray a.tmps)=true:=by rfl) (hop:j99 op=true:=by rfl)
  (hq:(∀x y:Value,(∀v,C v→x=y) ↔x=y)→ ∀K:Act→Prop,(∀b,b=a'→K b)→Oper.quiet P ⟨dst,op,ty,pos,after,gd⟩ a C K:=by intro hone K hK;go_big_quiet_op;go_big_quiet_on;rfl):wpG P l C Q (i::rest) a:=
 j4E ho hw hop (fun K hK=>hq (x4s h0) K (fun b e=>by subst e;exact hK _ k))
theorem qs(ho:l[i]?=some ⟨dst,op,ty,pos,after,gd⟩)(h0: ∃u,C u)(k:wpG P l C Q rest a')
  (hw:Region.wanted ⟨dst,op,ty,pos,after,gd⟩ (yielded l.toArray a.tmps)=false:=by rfl)
  (hq:(∀x y:Value,(∀v,C v→x=y) ↔x=y)→ ∀K:Act→Prop,(∀b,b=a'→K b)→Oper.quiet P ⟨dst, .move (.const undef),ty,pos,after,gd⟩ a C K:=by intro hone K hK;go_big_quiet_op;go_big_quiet_on;rfl):wpG P l C Q (i::rest) a:=
 x04 ho hw (fun K hK=>hq (x4s h0) K (fun b e=>by subst e;exact hK _ k)) h0.choose_spec
theorem qc{f:FuncId}{xs:Array Operand}{ats:Array TypeId}{fn:Func}{c:Code}{args:Array Value}(ho:l[i]?=some ⟨dst, .call {callee:= .value (.func f),args:=xs,argTypes:=ats},ty,pos,after,gd⟩)(hfn:P.funcs[f]?=some fn)
  (hc: ∀u,C u→Calls P f args u (fun e w''=>e= .returned v∧Below u.heap.size u w'')) (h0: ∃u,C u) (k:wpG P l C Q rest a')
  (hw:Region.wanted ⟨dst, .call {callee:= .value (.func f),args:=xs,argTypes:=ats},ty,pos,after,gd⟩ (yielded l.toArray a.tmps)=true:=by rfl)
  (hargs:xs.toList.map a.eval=args.toList:=by rfl) (hname:(fn.name== "runtime.NumGoroutine")=false:=by rfl) (hb:fn.body=some c:=by rfl)
  (hq:(∀x y:Value,(∀v,C v→x=y) ↔x=y)→ ∀K:Act→Prop,(∀b,b=a'→K b)→Oper.quiet P ⟨dst, .move (.const v),ty,pos,after,gd⟩ a C K:=by intro hone K hK;go_big_quiet_op;go_big_quiet_on;rfl):wpG P l C Q (i::rest) a:=
 j23 ho hw hargs hfn hname hb hc (fun K hK=>hq (x4s h0) K (fun b e=>by subst e;exact hK _ k)) h0.choose_spec
end
section
variable {P:Program}{Γ:HP}{l:List Oper}{ops:Array Oper}{C:World→Prop}{Q:Act→Prop}{R0:Act→j0e→Prop}{K:Act→j0e→Prop}{a a':Act}{i F:Nat}{rest:List Nat}{dst:Option Tmp}{op:Op}{ty:TypeId}{pos:String}{after:Array Edge}{gd:Option (Nat × Bool)}{w0 u0:World}{M L:j0e}{md:Region.Mode}{listed:Array Bool}
class FldT (P:Program) (T:TypeId) (tab:outParam (List (Nat × Nat))):Prop where
  run: ∀{a:Act}{dst:Option Tmp}{x:Operand}{ty:TypeId}{pos:String}{after:Array Edge}{gd:Option (Nat × Bool)}{k off:Nat}{ad:Addr}(_:tab.lookup k=some off)(u:World)(_:a.eval x= .pointer (some ad)),
    (execOp a.eval ⟨dst, .fieldAddr T x k,ty,pos,after,gd⟩).run P u= .ok (.value (.pointer (some (ad.add off)))) u
theorem qf{T:TypeId}{x:Operand}{k off g o o2:Nat}{tab:List (Nat × Nat)}(ho:l[i]?=some ⟨dst, .fieldAddr T x k,ty,pos,after,gd⟩)(h0: ∃u,C u)(kk:wpG P l C Q rest a')(I:FldT P T tab:=by infer_instance)
  (hx:a.eval x= .pointer (some ⟨g,o,none⟩):=by rfl) (hk:tab.lookup k=some off:=by rfl) (h2:o+off=o2:=by first|exact Nat.zero_add _|rfl)
  (hw:Region.wanted ⟨dst, .fieldAddr T x k,ty,pos,after,gd⟩ (yielded l.toArray a.tmps)=true:=by rfl)
  (hq:(∀x y:Value,(∀v,C v→x=y) ↔x=y)→ ∀K:Act→Prop,(∀b,b=a'→K b)→Oper.quiet P ⟨dst, .move (.const (.pointer (some ⟨g,o2,none⟩))),ty,pos,after,gd⟩ a C K:=by intro hone K hK;go_big_quiet_op;go_big_quiet_on;rfl):wpG P l C Q (i::rest) a:=
 qv ho (fun u _=>by have h:=I.run (dst:=dst) (ty:=ty) (pos:=pos) (after:=after) (gd:=gd) hk u hx;rw[Addr.add_mid,h2]at h;exact h) h0 kk hw hq
class Cell (P:Program) (cs:Array Value) (T o:Nat) (v:outParam Value) (p:outParam Prop):Prop where
  run: ∀{w0 u:World}{M:j0e}{g:Nat}{ty:TypeId},EnvC w0 M u→(g,Obj.cells cs ty (0,0))∈M→p→(loadVar T ⟨g,o,none⟩).run P u= .ok v u
theorem ql{T:TypeId}{x:Operand}{g o:Nat}{cs:Array Value}{t:TypeId}{v:Value}{p:Prop}(ho:l[i]?=some ⟨dst, .load T x,ty,pos,after,gd⟩)(hm:(g,Obj.cells cs t (0,0))∈M)(hp:p)(h0: ∃u,EnvC w0 M u)(kk:wpG P l (EnvC w0 M) Q rest a')
  (hx:a.eval x= .pointer (some ⟨g,o,none⟩):=by rfl) (I:Cell P cs T o v p:=by infer_instance)
  (hw:Region.wanted ⟨dst, .load T x,ty,pos,after,gd⟩ (yielded l.toArray a.tmps)=true:=by rfl)
  (hq:(∀x y:Value,(∀v,EnvC w0 M v→x=y) ↔x=y)→ ∀K:Act→Prop,(∀b,b=a'→K b)→Oper.quiet P ⟨dst, .move (.const v),ty,pos,after,gd⟩ a (EnvC w0 M) K:=by intro hone K hK;go_big_quiet_op;go_big_quiet_on;rfl):wpG P l (EnvC w0 M) Q (i::rest) a:=
 qv ho (fun u hu=>by unfold execOp;simp only[hx,Instr.loadAt,Instr.sureAddr,Sem.run_bind,Sem.run_pure,Result.andThen_ok,I.run hu hm hp]) h0 kk hw hq
theorem sh{ty':TypeId}{x y:Operand}{g:Nat}{cs old:Array Value}{t:TypeId}(ho:ops[i]?=some ⟨none, .store ty' x y,ty,pos,after,none⟩)(H:Hid (w0.heap.size≤g∧ ∀z∈L,z.1≠g))(hi:(P.info? ty').map (·.size)=some cs.size)(hold:old.size=cs.size)(h1:cs.all (·.oneCell')=true)
  (h:(∃u,EnvX w0 u ((g,Obj.cells cs t (0,0))::L))→K a ((g,Obj.cells cs t (0,0))::L)) (hx:a.eval x= .pointer (some ⟨g,0,none⟩):=by rfl) (hy:a.eval y= .agg cs:=by rfl):hOp (Γ:=HP.no) P ops w0 i K a ((g,Obj.cells old t (0,0))::L):=
 j0z ho g cs hx hy H.out.1 t old mH hi hold h1 _ (mA ⟨.inl rfl,fun y hy=> .inr ⟨mT hy,H.out.2 y hy⟩⟩) h
theorem so{ty':TypeId}{x y:Operand}{g:Nat}{cs old:Array Value}{t:TypeId}(ho:ops[i]?=some ⟨none, .store ty' x y,ty,pos,after,none⟩)(hg:w0.heap.size≤g)(hm:(g,Obj.cells old t (0,0))∈M)(hi:(P.info? ty').map (·.size)=some cs.size)(hold:old.size=cs.size)(h1:cs.all (·.oneCell')=true)
  (h:(∃u,EnvX w0 u [(g,Obj.cells cs t (0,0))])→K a [(g,Obj.cells cs t (0,0))]) (hx:a.eval x= .pointer (some ⟨g,0,none⟩):=by rfl) (hy:a.eval y= .agg cs:=by rfl):hOp (Γ:=HP.no) P ops w0 i K a M:=
 j0z ho g cs hx hy hg t old hm hi hold h1 _ (mA ⟨.inl rfl,fun _ h=>by cases h⟩) h
theorem qr{R:Value→j0e→Prop}{f:FuncId}{xs:Array Operand}{ats:Array TypeId}{fn:Func}{c:Code}{args:Array Value}{a':Value→Act}(ho:ops[i]?=some ⟨dst, .call {callee:= .value (.func f),args:=xs,argTypes:=ats},ty,pos,after,none⟩)(hfn:P.funcs[f]?=some fn)
  (hc: ∀u,EnvX w0 u M→Calls P f args u (fun e w''=> ∃x N,e= .returned x∧R x N∧Below u.heap.size u w''∧ ∀y∈N,u.heap.size≤y.1∧w''.heap[y.1]?=some y.2))
  (h: ∀x N,R x N→j01 w0 N M→(∃u,EnvX w0 u (N++M))→K (a' x) (N++M))
  (hargs:xs.toList.map a.eval=args.toList:=by rfl) (hname:(fn.name== "runtime.NumGoroutine")=false:=by rfl) (hb:fn.body=some c:=by rfl)
  (hq: ∀(x:Value)(K:Act→Prop),(∀b,b=a' x→K b)→Oper.quiet P ⟨dst, .move (.const x),ty,pos,after,none⟩ a (fun _=>True) K:=by intro x K hK;go_big_quiet_op;go_big_quiet_on;rfl):hOp (Γ:=Γ) P ops w0 i K a M:=
 j0k R M ho rfl (fun _ h=>h) (fun u hu=>j6X hargs hfn hname hb u (hc u hu)) (fun x N hR hf hE K' hK=>hq x K' (fun b e=>by subst e;exact hK _ (h x N hR hf hE)))
theorem qn{z:Obj}{a':Nat→Act}(ho:ops[i]?=some ⟨dst,op,ty,pos,after,none⟩)(hz:j3r P ⟨dst,op,ty,pos,after,none⟩ a z)
  (h: ∀g,Hid (w0.heap.size≤g∧ ∀x∈M,x.1≠g)→(∃u,EnvX w0 u ((g,z)::M))→K (a' g) ((g,z)::M))
  (hq: ∀(g:Nat)(K:Act→Prop),(∀b,b=a' g→K b)→Oper.quiet P ⟨dst, .move (.const (.pointer (some ⟨g,0,none⟩))),ty,pos,after,none⟩ a (fun _=>True) K:=by intro g K hK;go_big_quiet_op;go_big_quiet_on;rfl):hOp (Γ:=Γ) P ops w0 i K a M:=
 x2C z ho hz (fun g h1 h2 hE K' hK=>hq g K' (fun b e=>by subst e;exact hK _ (h g ⟨h1,h2⟩ hE)))
theorem rgQ{R:Exit→Act→World→Prop}{id:Nat}{w:World}(ord rest:List Nat)(hE:Hid (EnvX w0 w L))(hr:List.range l.toArray.size=ord++rest)
  (h:(∃u,EnvC w0 L u)→wpG P l (EnvC w0 L) (fun a'=>j1E (Γ:=HP.no) P l.toArray w0 (fun a M=> ∀u,EnvX w0 u M→R .normal a u) rest a' L) ord a):(Code.region id l.toArray false).wp P R a w:=
 rgP ord rest hE hr fun _ _=>h ⟨_,hE.out⟩
theorem rgK{R:Exit→Act→World→Prop}{id:Nat}{w:World}(ord:List Nat)(f:Nat)(hE:Hid (EnvX w0 w L))(hF:l.toArray.size=ord.length+f)
  (h:(∃u,EnvC w0 L u)→wpG P l (EnvC w0 L) (fun a'=>j1s (Γ:=HP.no) P .any l.toArray w0 (fun a M=> ∀u,EnvX w0 u M→R .normal a u) f (j2g ord (Array.replicate l.toArray.size false)) a' L) ord a) (hm:P.follows .mixedOrders=true:=by kernel_rfl)
  (hB:(Region.noSelect l.toArray&& j4F .any l.toArray (Array.replicate l.toArray.size false) && q6u .any l.toArray ord (Array.replicate l.toArray.size false))=true:=by kernel_rfl):(Code.region id l.toArray true).wp P R a w:=
 rgH ord f hE hF hm hB fun _ _=>h ⟨_,hE.out⟩
theorem phE(ord rest:List Nat)(he: ∃u,EnvX w0 u L)
  (h:(∃u,EnvC w0 L u)→wpG P l (EnvC w0 L) (fun a'=>j1E (Γ:=Γ) P l.toArray w0 R0 rest a' L) ord a):j1E (Γ:=Γ) P l.toArray w0 R0 (ord++rest) a L:=
 phP ord rest he.choose_spec fun _=>h he
theorem phF(ord:List Nat)(f:Nat)(hF:F=ord.length+f)(he: ∃u,EnvX w0 u L)
  (h:(∃u,EnvC w0 L u)→wpG P l (EnvC w0 L) (fun a'=>j1s (Γ:=Γ) P md l.toArray w0 R0 f (j2g ord listed) a' L) ord a) (hB:(Region.noSelect l.toArray&& j4F md l.toArray listed&& q6u md l.toArray ord listed)=true:=by kernel_rfl):j1s (Γ:=Γ) P md l.toArray w0 R0 F listed a L:=
 phH ord f hF he.choose_spec hB fun _=>h he
theorem aO(i:Nat){f:Nat}(h:hOp (Γ:=Γ) P ops w0 i (j1s (Γ:=Γ) P md ops w0 R0 f (listed.setIfInBounds i true)) a M)(hr:Region.ready md ops listed=[i]:=by kernel_rfl):j1s (Γ:=Γ) P md ops w0 R0 (f+1) listed a M:=j9A hr h
theorem eH{R:Exit→Act→World→Prop}(h: ∀u,Hid (EnvX w0 u L)→R .normal a u)(hr:Region.ready md ops listed=[]:=by kernel_rfl):wpG P l C (fun a'=>j1s (Γ:=Γ) P md ops w0 (fun a M=> ∀u,EnvX w0 u M→R .normal a u) 0 listed a' L) [] a:=enH hr h
theorem eM{R:Exit→Act→World→Prop}(h: ∀u,Hid (EnvX w0 u L)→R .normal a u)(hr:Region.ready md ops listed=[]:=by kernel_rfl):j1s (Γ:=Γ) P md ops w0 (fun a M=> ∀u,EnvX w0 u M→R .normal a u) 0 listed a L:=enM hr h
theorem j68{Q Q':Act→Prop}(hQ: ∀a,Q a→Q' a): ∀(ord:List Nat)(a:Act),j4C P l C Q ord a→j4C P l C Q' ord a
 |[],a,h=>hQ a h
 | i ::rest,a,h=>by
  unfold j4C at h ⊢
  cases hl:l[i]? with
  |none=>simp only[hl]at h
  |some o=>
   simp only[hl]at h ⊢
   split at h
   · rename_i hw
     rw[if_pos hw]
     obtain⟨v,h1,h2⟩:=h
     exact⟨v,h1,j68 hQ rest _ h2⟩
   · rename_i hw
     rw[if_neg hw]
     exact j68 hQ rest _ h
theorem j9C{Q:Act→Prop}: ∀(s r:List Nat)(a:Act),j4C P l C (fun b=>j4C P l C Q r b) s a→j4C P l C Q (s++r) a
 |[],r,a,h=>h
 | i ::s,r,a,h=>by
  show j4C P l C Q (i::(s++r)) a
  unfold j4C at h ⊢
  cases hl:l[i]? with
  |none=>simp only[hl]at h
  |some o=>
   simp only[hl]at h ⊢
   split at h
   · rename_i hw
     rw[if_pos hw]
     obtain⟨v,h1,h2⟩:=h
     exact⟨v,h1,j9C s r _ h2⟩
   · rename_i hw
     rw[if_neg hw]
     exact j9C s r _ h
theorem qw(n:Nat){ord:List Nat}(h0: ∃u,C u)(k:wpG P l C Q (ord.drop n) a')
  (h:(∃u,C u)→wpG P l C (fun b=>b=a') (ord.take n) a:=by
   intro h0
   repeat (first|refine qf rfl h0 ?_|refine qo rfl h0 ?_|refine qs rfl h0 ?_)
   exact⟨rfl⟩):wpG P l C Q ord a:=
 ⟨by
  have h1:=j68 (Q':=fun b=>j4C P l C Q (ord.drop n) b) (fun b e=>by subst e;exact k.out) _ _ (h h0).out
  have h2:=j9C _ _ _ h1
  rwa[List.take_append_drop]at h2⟩
end
theorem lM{α β:Type}{f:α→β}{s:List α}:(s.map f).length=s.length:=List.length_map ..
theorem hD{p:Prop}(h:p):Hid p:=Lib.hid h
def Rz(f:FuncId)(args:Array Value)(w:World)(v:Value):Prop:=Calls Tryz.prog f args w fun e w'=>e= .returned v∧Below w.heap.size w w'
def Rt(w:World)(f:FuncId)(args:Array Value)(v:Value):Prop:= ∀u,EnvX w u []→Calls Tryz.prog f args u fun e w'=>e= .returned v∧Below u.heap.size u w'
def Rb(w:World)(f:FuncId)(args:Array Value)(v:Value):Prop:= ∀u,Below w.heap.size w u→Calls Tryz.prog f args u fun e w'=>e= .returned v∧Below u.heap.size u w'
def isRows(z:Nat)(L:List (List Value)):Prop:= ∀x∈L,x.length=z
theorem isRows.flat_len{z:Nat}{L:List (List Value)}(h:isRows z L):L.flatten.length=L.length*z:=by
 induction L with
 |nil=>simp
 |cons x L ih=>
  rw[List.flatten_cons,lA,h x (List.mem_cons_self ..),ih (fun y hy=>h y (mT hy)),List.length_cons,Nat.succ_mul]
  omega
theorem isRows.flat_get{z:Nat}{L:List (List Value)}(h:isRows z L): ∀(i j:Nat),i<L.length→j<z→L.flatten[i*z+j]?=(L.getD i [])[j]?:=by
 induction L with
 |nil=>intro i j hi;simp at hi
 | cons x L ih=>
  intro i j hi hj
  have hx:=h x (List.mem_cons_self ..)
  rw[List.flatten_cons]
  cases i with
  |zero=>
   rw[Nat.zero_mul,Nat.zero_add,List.getElem?_append_left (by omega)]
   rfl
  |succ i=>
   rw[List.getElem?_append_right (by rw[hx,Nat.succ_mul];omega),hx,show (i+1)*z+j- z=i*z+j by rw[Nat.succ_mul];omega,ih (fun y hy=>h y (mT hy)) i j (by simpa using hi) hj]
   simp
theorem isRows.get{z:Nat}{L:List (List Value)}(h:isRows z L){i:Nat}(hi:i<L.length):(L.getD i []).length=z:=by
 rw[gD,gE hi]
 exact h _ (List.getElem_mem hi)
def CellsIn(w:World)(B:Nat)(A:Option Addr)(xs:List Value):Prop:=0<xs.length→ ∃ad,A=some ad∧ad.block<B∧ ∀j v,xs[j]?=some v→w.cell? (ad.add j)=some v
theorem CellsIn.below{w w':World}{B:Nat}{A:Option Addr}{xs:List Value}(h:CellsIn w B A xs)(hb:Below B w w'):CellsIn w' B A xs:=by
 intro hp
 obtain⟨ad,e,hlt,hc⟩:=h hp
 refine⟨ad,e,hlt,fun j v hv=>?_⟩
 have hbl:(ad.add j).block=ad.block:=by unfold Addr.add;split<;>rfl
 exact(hb.cell (p:=ad.add j) (by rw[hbl];exact hlt)).trans (hc j v hv)
theorem CellsIn.more{w:World}{B B':Nat}{A:Option Addr}{xs:List Value}(h:CellsIn w B A xs)(hB:B≤B'):CellsIn w B' A xs:=fun hp=>by
 obtain⟨ad,e,hlt,hc⟩:=h hp
 exact⟨ad,e,Nat.lt_of_lt_of_le hlt hB,hc⟩
theorem CellsIn.up{w w':World}{A:Option Addr}{xs:List Value}(h:CellsIn w w.heap.size A xs)(hb:Below w.heap.size w w'):CellsIn w' w'.heap.size A xs:=(h.below hb).more hb.size
theorem j4Y(a:Addr)(l j:Nat):(a.add l).add j=a.add (l+j):=by
 unfold Addr.add
 by_cases h:l=0
 · simp[h]
 · by_cases h2:j=0
   · simp[h,h2]
   · simp[h,h2,Nat.add_assoc]
structure AggT(ty:TypeId)(z:Nat):Prop where
  agg: ∀w,(isAgg ty).run Tryz.prog w= .ok true w
  size:(Tryz.prog.info? ty).map (·.size)=some z
theorem j0F{ty:TypeId}{z:Nat}(D:AggT ty z){w:World}{ad:Addr}(xs:List Value)(hx:xs.length=z)(h: ∀j v,xs[j]?=some v→w.cell? (ad.add j)=some v):(loadVar ty ad).run Tryz.prog w= .ok (.agg xs.toArray) w:=by
 have hc:=run_loadCells_list (P:=Tryz.prog) w ad xs h
 have hs:=D.size
 rw[hx]at hc
 cases hq:Tryz.prog.info? ty with
 |none=>rw[hq]at hs;cases hs
 |some i=>
  rw[hq]at hs
  simp only[Option.map_some,Option.some.injEq]at hs
  simp[loadVar,D.agg,sizeOf,typeInfo,hq,hs,hc]
theorem j0n{w0 u:World}{M:j0e}{g k:Nat}{t:TypeId}{cs:Array Value}{v:Value}(hu:EnvC w0 M u)(hm:(g,oc cs t)∈M)(h:cs[k]?=some v):u.cell? ⟨g,k,none⟩=some v:=by
 rw[Row.cell (EnvX.row hu hm)]
 exact h
theorem j2s{ty:TypeId}{z:Nat}(D:AggT ty z){w0 u:World}{M:j0e}{g k:Nat}{t:TypeId}{cs:Array Value}(hu:EnvC w0 M u)(hm:(g,oc cs t)∈M)(xs:List Value)(hx:xs.length=z)(h:(cs.toList.drop k).take z=xs):(loadVar ty ⟨g,k,none⟩).run Tryz.prog u= .ok (.agg xs.toArray) u:=by
 refine j0F D xs hx fun j v hv=>?_
 rw[Addr.add_mid]
 refine j0n hu hm ?_
 subst h
 have hj:j<z:=by
  rcases Nat.lt_or_ge j z with h'|h'
  · exact h'
  · rw[gN (by omega)]at hv
    cases hv
 rw[List.getElem?_take_of_lt hj,List.getElem?_drop,Array.getElem?_toList]at hv
 exact hv
section
variable {a:Act}{dst:Option Tmp}{x:Operand}{ty ty':TypeId}{pos:String}{after:Array Edge}{gd:Option (Nat × Bool)}
theorem j0a{ad:Addr}{v:Value}(u:World)(hr:(loadVar ty' ad).run Tryz.prog u= .ok v u)(hx:a.eval x= .pointer (some ad)):
  (execOp a.eval ⟨dst, .load ty' x,ty,pos,after,gd⟩).run Tryz.prog u= .ok (.value v) u:=by
 unfold execOp
 simp only[hx,Instr.loadAt,Instr.sureAddr,Sem.run_bind,Sem.run_pure,Result.andThen_ok,hr]
theorem j0f{ad:Addr}{v:Value}(ha: ∀w,(isAgg ty').run Tryz.prog w= .ok false w)(u:World)(h:u.cell? ad=some v):(loadVar ty' ad).run Tryz.prog u= .ok v u:=by
 have h':(load ad).run Tryz.prog u= .ok v u:=by rw[run_load,h]
 simp only[loadVar,Sem.run_bind,ha,Result.andThen_ok,Bool.false_eq_true,if_false,h']
end
structure ElemT(st e:TypeId)(z bytes:Nat)(zero:Value):Prop where
  und:Tryz.prog.underlying st=some (.slice e)
  info:(Tryz.prog.info? e).map (fun i=>(i.zero,i.size,i.bytes))=some (some zero,z,bytes)
  zs:zero.cells.size=z
  pos:0<z
  small:bytes≤1000
  smallz:z≤1000
def FreshR(e:TypeId)(z n:Nat)(xs:List Value)(x:Value)(N:j0e):Prop:=
  (∃g cap cur,x= .slice (some ⟨g,0,none⟩) n cap∧N=[(g,oc cur e)]∧n≤cap∧cap≤maxLen∧cur.size=cap*z∧cur.toList.take (n*z)=xs)∨
  (x= .slice none 0 0∧N=[]∧n=0∧xs=[])
theorem j2i{w:World}{B z n:Nat}{e:TypeId}{v:Value}{xs:List Value}(h:w.ownsRow B e z v n xs): ∃N,FreshR e z n xs v N∧ ∀y∈N,B≤y.1∧w.heap[y.1]?=some y.2∧v.ownBlock=some y.1:=by
 rcases h.2 with ⟨e1,e0⟩|⟨g,cap,cur,rfl,h1,h2,h3,h4,h5,h6⟩
 · subst e0
   exact⟨[], .inr ⟨e1,rfl,rfl,List.eq_nil_of_length_eq_zero (by rw[h.1,Nat.zero_mul])⟩,fun y hy=>by cases hy⟩
 · refine⟨_, .inl ⟨g,cap,cur,rfl,rfl,h3,h4,h5,h6⟩,fun y hy=>?_⟩
   cases mS.1 hy
   exact⟨h1,h2,rfl⟩
theorem FreshR.own{w:World}{B z n:Nat}{e:TypeId}{v:Value}{xs:List Value}{N:j0e}(h:FreshR e z n xs v N)(hl:xs.length=n*z)(hN: ∀y∈N,B≤y.1∧w.heap[y.1]?=some y.2):w.ownsRow B e z v n xs:=by
 refine⟨hl,?_⟩
 rcases h with ⟨g,cap,cur,rfl,rfl,h3⟩|⟨rfl,rfl,rfl,rfl⟩
 · obtain⟨k1,k2⟩:=hN _ (mS.2 rfl)
   exact .inr ⟨g,cap,cur,rfl,k1,k2,h3⟩
 · exact .inl ⟨rfl,rfl⟩
theorem FreshR.block{z n:Nat}{e:TypeId}{v:Value}{xs:List Value}{N:j0e}(h:FreshR e z n xs v N): ∀g,v.ownBlock=some g→ ∃o,(g,o)∈N:=by
 intro g hg
 rcases h with ⟨g',cap,cur,rfl,rfl,h3⟩|⟨rfl,rfl,rfl,rfl⟩
 · cases hg
   exact⟨_,mS.2 rfl⟩
 · cases hg
theorem j2k{w:World}{B z n c:Nat}{e:TypeId}{A:Option Addr}{xs:List Value}(h:w.ownsRow B e z (.slice A n c) n xs):CellsIn w w.heap.size A xs:=by
 intro hp
 rcases h.2 with ⟨e1,e2⟩|⟨g,cap,cur,e1,_,hg,_⟩
 · have:=h.1
   rw[e2,Nat.zero_mul]at this
   omega
 · injection e1 with e1 e2 e3
   subst e1
   exact⟨_,rfl,Row.lt (t:=e) hg,fun j v hv=>h.cells (g:=g) rfl j v hv⟩
theorem q6H{w:World}{B z n:Nat}{e:TypeId}{v:Value}{xs:List Value}(h:w.ownsRow B e z v n xs): ∃A c,v= .slice A n c∧n≤c∧c≤maxLen:=by
 rcases h.2 with ⟨rfl,e⟩|⟨g,cap,cur,rfl,_,_,h1,h2,_⟩
 · exact⟨none,0,by rw[e],by omega,Nat.zero_le _⟩
 · exact⟨_,cap,rfl,h1,h2⟩
theorem j0i{f:FuncId}{args:Array Value}{u:World}{e:TypeId}{z n:Nat}{xs:List Value}(h:Calls Tryz.prog f args u fun en w'=>(∃v,en= .returned v∧w'.ownsRow u.heap.size e z v n xs)∧Below u.heap.size u w'):
  Calls Tryz.prog f args u fun en w''=> ∃x N,en= .returned x∧FreshR e z n xs x N∧Below u.heap.size u w''∧ ∀y∈N,u.heap.size≤y.1∧w''.heap[y.1]?=some y.2:=
 h.mono fun en w'⟨⟨v,he,hv⟩,hb⟩=>by
  obtain⟨N,hF,hN⟩:=j2i hv
  exact⟨v,N,he,hF,hb,fun y hy=>⟨(hN y hy).1,(hN y hy).2.1⟩⟩
section
variable {st e:TypeId}{z bytes:Nat}{zero:Value}
theorem q2t(T:ElemT st e z bytes zero){w:World}{B n:Nat}{v:Value}{xs:List Value}(h:w.ownsRow B e z v n xs){ys:List Value}{ad:Addr}{m c:Nat}(hy:ys.length=m*z)(hc: ∀j u,ys[j]?=some u→w.cell? (ad.add j)=some u)(h1: ∀u∈ys,u.oneCell'=true)(hs:n+m≤2000000)(hB:B≤w.heap.size):
  ∃v' w',(Builtin.append_ #[st,st] st #[v, .slice (some ad) m c]).run Tryz.prog w= .ok v' w'∧w'.ownsRow B e z v' (n+m) (xs++ys)∧w.grownBy w' v.ownBlock∧(v'.ownBlock=v.ownBlock∨v'.ownBlock=some w.heap.size):=by
 cases hq:Tryz.prog.info? e with
 |none=>have:=T.info;rw[hq]at this;cases this
 |some i=>
  have hi:=T.info
  rw[hq]at hi
  simp only[Option.map_some,Option.some.injEq,Prod.mk.injEq]at hi
  obtain⟨k1,k2,k3⟩:=hi
  have hsm:=T.small
  have hmul:(n+m)*bytes≤2000000*1000:=Nat.mul_le_mul hs hsm
  obtain⟨v',w',hrun,hown',hg,_,ho⟩:=run_append_own_at (P:=Tryz.prog) w B st st e i zero z bytes T.und hq k1 k2 k3 T.zs T.pos v n xs h ad m c ys hy hc h1 (by unfold maxLen;omega) (by omega) hB
  exact⟨v',w',hrun,hown',hg,ho⟩
def j2R(e:TypeId)(ys:List Value)(v:Value)(N:j0e):Prop:= ∃g,v= .slice (some ⟨g,0,none⟩) 1 1∧N=[(g,oc ys.toArray e)]
theorem q4M(T:ElemT st e z bytes zero)(ys:List Value)(hy:ys.length=z)(h1: ∀u∈ys,u.oneCell'=true)(u:World):(Instr.buildSlice st 1 #[(0, .agg ys.toArray)]).run Tryz.prog u= .ok (.slice (some ⟨u.heap.size,0,none⟩) 1 1) (u.alloc (.cells ys.toArray e)):=by
 cases hq:Tryz.prog.info? e with
 |none=>have:=T.info;rw[hq]at this;cases this
 |some i=>
  have hi:=T.info
  rw[hq]at hi
  simp only[Option.map_some,Option.some.injEq,Prod.mk.injEq]at hi
  obtain⟨k1,k2,k3⟩:=hi
  have hsm:=T.small
  have hsz2:=T.smallz
  have hpz:=T.pos
  refine run_buildSlice u st e 1 _ ys.toArray i zero T.und hq k1 (by omega) (by omega) ?_
  have hsz:(Value.agg ys.toArray).cells.size=z:=by simp[Value.cells,hy]
  rw[k2]
  have hf:=Great.fill_whole (s:=z) T.pos [.agg ys.toArray] ((Array.range (1*z)).map (zero.cells[· % zero.cells.size]!)) (by intro v hv;cases mS.1 hv;exact hsz) (by simp)
  simpa [Value.cells] using hf
theorem j1q(T:ElemT st e z bytes zero){ys:List Value}(hy:ys.length=z)(h1: ∀u∈ys,u.oneCell'=true){a:Act}{dst:Option Tmp}{x:Operand}{ty:TypeId}{pos:String}{after:Array Edge}{gd:Option (Nat × Bool)}(hx:a.eval x= .agg ys.toArray)(u:World):
  FAt Tryz.prog ⟨dst, .buildSlice st 1 #[(0,x)],ty,pos,after,gd⟩ a (j2R e ys) u:=by
 unfold FAt execOp
 simp only[List.map_toArray,List.map_cons,List.map_nil,hx,Sem.run_bind,Sem.run_pure,q4M T ys hy h1 u,Result.andThen_ok]
 refine⟨(Below.refl _ _).alloc (Nat.le_refl _) _,_,⟨_,rfl,rfl⟩,fun y hy=>?_⟩
 cases mS.1 hy
 exact⟨Nat.le_refl _,heap_alloc_new u _⟩
def j1N(w0:World)(e:TypeId)(z n:Nat)(xs:List Value)(M0:j0e)(v:Value)(M':j0e):Prop:= ∃N,M'=N++M0∧FreshR e z n xs v N∧j01 w0 N M0
theorem q7z(T:ElemT st e z bytes zero){w0 u:World}{M:j0e}(M0:j0e){N:j0e}{n m c:Nat}{xs:List Value}{v:Value}{ys:List Value}{g:Nat}{t:TypeId}{a:Act}{dst:Option Tmp}{y x:Operand}{pos:String}{after:Array Edge}{gd:Option (Nat × Bool)}
   (hu:EnvX w0 u M) (hl:xs.length=n*z) (hy:ys.length=m*z) (h1: ∀u∈ys,u.oneCell'=true) (hF:FreshR e z n xs v N) (hN: ∀y∈N,y∈M∧w0.heap.size≤y.1) (hg:(g,oc ys.toArray t)∈M) (hM0: ∀z∈M0,z∈M∧ ∀y∈N,z.1≠y.1) (hs:n+m≤2000000)
   (hyv:a.eval y=v) (hx:a.eval x= .slice (some ⟨g,0,none⟩) m c):
   ∃v' u' M',(execOp a.eval ⟨dst, .call {callee:= .builtin .append,args:= #[y,x],argTypes:= #[st,st]},st,pos,after,gd⟩).run Tryz.prog u= .ok (.value v') u'∧EnvX w0 u' M'∧j1N w0 e z (n+m) (xs++ys) M0 v' M':=by
 have hown:u.ownsRow w0.heap.size e z v n xs:=hF.own hl (fun y hy=>⟨(hN y hy).2,hu.box _ _ (hN y hy).1⟩)
 have hcell: ∀j c,ys[j]?=some c→u.cell? ((⟨g,0,none⟩:Addr).add j)=some c:=by
   intro j c hc
   rw[Addr.add_mid,Nat.zero_add]
   exact j0n hu hg (by simpa using hc)
 obtain⟨v',u',hrun,hown',hgr,hob⟩:=q2t T (c:=c) hown hy hcell h1 hs hu.bel.size
 obtain⟨N',hF',hN'⟩:=j2i hown'
 refine⟨v',u',N'++M0,?_,?_,N',rfl,hF',?_⟩
 · unfold execOp
   simp only[resolve,invoke,builtin,Sem.run_bind,Sem.run_pure,Result.andThen_ok,List.map_toArray,List.map_cons,List.map_nil,hyv,hx,hrun]
 · have hbel:Below w0.heap.size u u':=j1B hgr (fun r hr=>(hown.lt r hr).1) hu.bel.size
   refine⟨hu.bel.trans hbel,fun g' o hm=>?_⟩
   rcases List.mem_append.1 hm with e|e
   · exact(hN' _ e).2.1
   · have hin:=hM0 _ e
     rw[hgr.block g' (hu.lt hin.1) (fun e2=>by
      obtain⟨o2,ho2⟩:=hF.block g' e2.symm
      exact hin.2 _ ho2 rfl)]
     exact hu.box _ _ hin.1
 · intro y hy
   refine⟨(hN' y hy).1,fun z hz e=>?_⟩
   have hb:=(hN' y hy).2.2
   have hin:=hM0 z hz
   rcases hob with h|h
   · obtain⟨o2,ho2⟩:=hF.block y.1 (h.symm.trans hb)
     exact hin.2 _ ho2 e
   · have h1:=hu.lt (g:=z.1) (o:=z.2) hin.1
     have h2:u.heap.size=y.1:=Option.some.inj (h.symm.trans hb)
     omega
theorem x0s{place:Nat→Option (Nat × Nat)}(A B zs:Array Value){p q:Nat}(hp:A.size=p)(hq:B.size=q)(h0:place 0=some (0,p))(h1:place 1=some (p,q))(hz:zs.size=p+q):
   Instr.fill place zs [(0, .agg A),(1, .agg B)]=some (A++B):=by
 subst hp hq
 obtain⟨g1,g2⟩:=Great.foldl_set 0 A.toList 0 zs
 obtain⟨k1,k2⟩:=Great.foldl_set A.size B.toList 0 ((A.toList.zipIdx 0).foldl (fun cs(x:Value × Nat)=>cs.setIfInBounds (0+x.2) x.1) zs)
 have e1:(A.zipIdx.foldl (fun cs(x:Value × Nat)=>cs.setIfInBounds (0+x.2) x.1) zs)=(A.toList.zipIdx 0).foldl (fun cs(x:Value × Nat)=>cs.setIfInBounds (0+x.2) x.1) zs:=by rw[←Array.foldl_toList,Array.toList_zipIdx]
 have e2: ∀ws:Array Value,(B.zipIdx.foldl (fun cs(x:Value × Nat)=>cs.setIfInBounds (A.size+x.2) x.1) ws)=(B.toList.zipIdx 0).foldl (fun cs(x:Value × Nat)=>cs.setIfInBounds (A.size+x.2) x.1) ws:=fun ws=>by rw[←Array.foldl_toList,Array.toList_zipIdx]
 unfold Instr.fill
 simp only[h0,Value.cells,e1]
 split
 · rename_i h
   simp at h
   omega
 unfold Instr.fill
 simp only[h1,Value.cells,e2]
 split
 · rename_i h
   simp only[g1]at h
   simp at h
   omega
 unfold Instr.fill
 congr 1
 apply Array.ext_getElem?
 intro k
 rw[k2 k,g2 k,Array.getElem?_append]
 have g3:((A.toList.zipIdx 0).foldl (fun cs(x:Value × Nat)=>cs.setIfInBounds x.2 x.1) zs).size=zs.size:=by simpa using g1
 simp only[Array.length_toList,Nat.add_zero,Nat.zero_add,Nat.sub_zero,Array.getElem?_toList,g3]
 by_cases h:k<A.size
 · rw[if_pos h,if_neg (by omega),if_pos (by omega)]
 · rw[if_neg h]
   by_cases h':k<A.size+B.size
   · rw[if_pos (by omega)]
   · have h3:zs[k]?=none:=Array.getElem?_eq_none (by omega)
     have h4:B[k- A.size]?=none:=Array.getElem?_eq_none (by omega)
     rw[if_neg (by omega),if_neg (by omega),h3,h4]
theorem q24{t e:TypeId}{len z:Nat}(hu:Tryz.prog.underlying t=some (.array len e))(D:AggT e z){cs:Array Value}{i:Nat}(hi:i<len){v:Array Value}(hv:cs.extract (i*z) (i*z+z)=v){a:Act}{dst:Option Tmp}{x y:Operand}{ty:TypeId}{pos:String}{after:Array Edge}{gd:Option (Nat × Bool)}(u:World)
  (hx:a.eval x= .agg cs) (hy:a.eval y= .int .i64 (i:Int)):(execOp a.eval ⟨dst, .index t x y,ty,pos,after,gd⟩).run Tryz.prog u= .ok (.value (.agg v)) u:=by
 have hs:=D.size
 cases hq:Tryz.prog.info? e with
 |none=>rw[hq]at hs;cases hs
 | some k=>
  rw[hq]at hs
  simp only[Option.map_some,Option.some.injEq]at hs
  have hsz:(sizeOf e).run Tryz.prog u= .ok z u:=by simp[sizeOf,typeInfo,hq,hs]
  have hw:IntKind.i64.wrap (i:Int)=(i:Int)∨True:= .inr trivial
  have h1:(0:Int)≤(i:Int)∧(i:Int)<(len:Int):=by omega
  have hp:(part e cs (i*z)).run Tryz.prog u= .ok (.agg v) u:=by
   simp[part,D.agg,hsz,hv]
  unfold execOp
  simp only[hx,hy]
  simp[Instr.index,asIntOf,run_underlying hu,h1,hsz,hp]
  omega
theorem q7N(T:ElemT st e z bytes zero){n:Nat}(hn:n≤10000){a:Act}{dst:Option Tmp}{x:Operand}{ty:TypeId}{pos:String}{after:Array Edge}{gd:Option (Nat × Bool)}(hx:a.eval x= .int .i64 (n:Int))(u:World):
  FAt Tryz.prog ⟨dst, .makeSlice st (.const (.int .i64 0)) x,ty,pos,after,gd⟩ a (fun v N=> ∃g cur,v= .slice (some ⟨g,0,none⟩) 0 n∧N=[(g,oc cur e)]∧cur.size=n*z) u:=by
 cases hq:Tryz.prog.info? e with
 |none=>have:=T.info;rw[hq]at this;cases this
 |some i=>
  have hi:=T.info
  rw[hq]at hi
  simp only[Option.map_some,Option.some.injEq,Prod.mk.injEq]at hi
  obtain⟨k1,k2,k3⟩:=hi
  have hsm:=T.small
  have hmul:bytes*n≤1000*10000:=Nat.mul_le_mul hsm hn
  have hr:=run_make (P:=Tryz.prog) u st e i zero T.und hq k1 .i64 .i64 0 (n:Int) (by omega) (by omega) (by rw[k3,←Int.natCast_mul];omega) (by omega)
  have ha0:a.eval (.const (.int .i64 0))= .int .i64 0:=rfl
  unfold FAt execOp
  simp only[hx,ha0,Sem.run_bind,Sem.run_pure,hr,Result.andThen_ok]
  refine⟨(Below.refl _ _).alloc (Nat.le_refl _) _,[(u.heap.size,oc (madeCells zero.cells ((n:Int).toNat*i.size)) e)],⟨u.heap.size,madeCells zero.cells ((n:Int).toNat*i.size),rfl,rfl,?_⟩,fun y hy=>?_⟩
  · rw[size_madeCells,k2]
    simp
  · cases mS.1 hy
    exact⟨Nat.le_refl _,heap_alloc_new u _⟩
end
theorem j6B(a:Addr)(x y:Nat):(a.add x).add y=a.add (x+y):=by
 unfold Addr.add
 by_cases h0:x=0
 · subst h0
   simp
 · by_cases h2:y=0
   · subst h2
     simp[h0]
   · simp[h0,h2,Nat.add_assoc]
def j7M(n:Nat):Nat→Nat→Nat
  |0,k=>k
  |f+1,k=>if 2*k<n then j7M n f (2*k)else k
def j2v(n:Nat):Nat:=j7M n n 1
theorem j7T(n:Nat): ∀(f k:Nat),1≤k→k<n→n≤k*2^f→k≤j7M n f k∧j7M n f k<n∧n≤2*j7M n f k∧ ∃e,j7M n f k=k*2^e
 |0,k,_,hkn,hf=>by
  rw[Nat.pow_zero,Nat.mul_one]at hf
  omega
 |f+1,k,hk,hkn,hf=>by
  unfold j7M
  by_cases h:2*k<n
  · rw[if_pos h]
    obtain⟨h1,h2,h3,e,h4⟩:=j7T n f (2*k) (by omega) h (by rw[Nat.pow_succ]at hf;rw[Nat.mul_comm 2 k,Nat.mul_assoc,Nat.mul_comm 2];exact hf)
    exact⟨by omega,h2,h3,e+1,by rw[h4,Nat.pow_succ,Nat.mul_comm 2 k,Nat.mul_assoc,Nat.mul_comm 2]⟩
  · rw[if_neg h]
    exact⟨Nat.le_refl _,hkn,by omega,0,by simp⟩
theorem j3A{n:Nat}(h:2≤n):1≤j2v n∧j2v n<n∧n≤2*j2v n∧ ∃e,j2v n=2^e:=by
 have h0:n≤1*2^n:=by rw[Nat.one_mul];exact Nat.le_of_lt Nat.lt_two_pow_self
 obtain⟨h1,h2,h3,e,h4⟩:=j7T n n 1 (Nat.le_refl _) (by omega) h0
 exact⟨h1,h2,h3,e,by unfold j2v;rw[h4,Nat.one_mul]⟩
theorem q38{a b n:Nat}(h1:2^a<n)(h2:n≤2*2^a)(h3:2^b<n)(h4:n≤2*2^b):a=b:=by
 have e1:2*2^a=2^ (a+1):=by rw[Nat.pow_succ,Nat.mul_comm]
 have e2:2*2^b=2^ (b+1):=by rw[Nat.pow_succ,Nat.mul_comm]
 rw[e1]at h2
 rw[e2]at h4
 have k1:2^a<2^ (b+1):=Nat.lt_of_lt_of_le h1 h4
 have k2:2^b<2^ (a+1):=Nat.lt_of_lt_of_le h3 h2
 have:=(Nat.pow_lt_pow_iff_right (by decide:1<2)).1 k1
 have:=(Nat.pow_lt_pow_iff_right (by decide:1<2)).1 k2
 omega
theorem q1Q{n e:Nat}(h1:2^e<n)(h2:n≤2*2^e):j2v n=2^e:=by
 have hp:0<2^e:=Nat.pow_pos (by decide)
 obtain⟨_,k2,k3,e',k4⟩:=j3A (n:=n) (by omega)
 rw[k4]at k2 k3 ⊢
 rw[q38 k2 k3 h1 h2]
def j9R(a b:List Int):List Int:=1::(a++b)
def j7p(a b:List Int):List Int:=j4x (j9R a b)
def j4q(b:List Int):List Int:=j4x (0::b)
def j80:Nat→List (List Int)→List Int
  |0,l=>l.headD []
  |f+1,l=>if l.length≤1 then l.headD []else j7p (j80 f (l.take (j2v l.length))) (j80 f (l.drop (j2v l.length)))
def j1K(l:List (List Int)):List Int:=if l.length=0 then j4x [2]else j80 l.length l
theorem j3O: ∀(f g:Nat)(l:List (List Int)),l.length≤f→l.length≤g→j80 f l=j80 g l
 |0,0,_,_,_=>rfl
 |0,g+1,l,h,_=>by
  unfold j80
  rw[if_pos (by omega)]
 |f+1,0,l,_,h=>by
  unfold j80
  rw[if_pos (by omega)]
 |f+1,g+1,l,h1,h2=>by
  unfold j80
  by_cases h:l.length≤1
  · rw[if_pos h,if_pos h]
  · rw[if_neg h,if_neg h]
    obtain⟨a,b,_,_⟩:=j3A (n:=l.length) (by omega)
    rw[j3O f g (l.take _) (by rw[List.length_take];omega) (by rw[List.length_take];omega),j3O f g (l.drop _) (by rw[List.length_drop];omega) (by rw[List.length_drop];omega)]
theorem q7j:j1K []=j4x [2]:=rfl
theorem x0w(x:List Int):j1K [x]=x:=rfl
theorem q3t{l:List (List Int)}(h:2≤l.length):j1K l=j7p (j1K (l.take (j2v l.length))) (j1K (l.drop (j2v l.length))):=by
 obtain⟨a,b,_,_⟩:=j3A h
 have e1:(l.take (j2v l.length)).length=j2v l.length:=by rw[List.length_take];omega
 have e2:(l.drop (j2v l.length)).length=l.length- j2v l.length:=List.length_drop
 unfold j1K
 rw[if_neg (by omega),if_neg (by omega),if_neg (by omega)]
 obtain⟨n,hn⟩: ∃n,l.length=n+1:=⟨l.length- 1,by omega⟩
 rw[j3O l.length (n+1) l (Nat.le_refl _) (by omega),j80,if_neg (by omega),j3O n _ (l.take _) (by omega) (Nat.le_refl _),j3O n _ (l.drop _) (by omega) (Nat.le_refl _)]
theorem j4a(A:Option Addr)(n c:Nat)(xss:List (List Int))(w:World)(hl:xss.length=n)(hx:Parts w w.heap.size A xss)(hn:n≤9223372036854775807)(hs:xss.flatten.length≤70368744177664)(ht:Tables w):
  Rz 65 #[.slice A n c] w (.agg (j0d 32 (j4x xss.flatten))):=by
 unfold Rz
 have HL:=hD hl
 have HX:=hD hx
 clear hl hx
 go_enter func65,ntmps65
 go_wp2_with fail
 go_loopw [3,8] (fun v i u=> ∃k:Nat,k≤n∧i= .int .i64 k∧Below w.heap.size w u∧Hid (Row u w.heap.size 26 (j0d 32 [])∧u.ownsRow (w.heap.size+1) 5 1 v (xss.take k).flatten.length ((xss.take k).flatten.map u8v))) (fun _ i _=>n- (intOf i).toNat)
 case atStart=>exact⟨0,by omega,rfl,by go_grown,Row.new w 26 _,World.ownsRow_nil _ _ _ _⟩
 case round=>
  obtain⟨k,hk,rfl,hbl,hrows⟩:=hrel
  obtain⟨r0,hown⟩:=hrows.out
  have s0:=r0.lt
  by_cases hlt:k<n
  · have hg:=gE (by rw[HL.out];exact hlt:k<xss.length)
    have hst:=hD (j7G xss k _ hg)
    obtain⟨b,o,a,c1,rfl,hb,hc,hy,hr⟩:=HX.out k _ hg
    have hle:(xss.take k).flatten.length+(xss[k]'(by rw[HL.out];exact hlt)).length≤xss.flatten.length:=by
     have e:=congrArg List.length hst.out
     rw[lA]at e
     have h2:(xss.take (k+1)).flatten.length≤xss.flatten.length:=by
      conv=>rhs;rw[←List.take_append_drop (k+1) xss,List.flatten_append,lA]
      omega
     omega
    generalize xss[k]'(by rw[HL.out];exact hlt)=ys at *
    obtain⟨v',w',hrun,hown',hgr⟩:=j6A _ _ _ _ wr hown a ys.length c1 w.heap.size ys rfl (hy.below hbl) (by omega) (by omega)
    have hcell:=(hbl.cell (p:=⟨b,o+k,none⟩) hb).trans hc
    have hb2:=j1B (B:=w.heap.size+1) hgr (fun g hg=>(hown.lt g hg).1) (by omega)
    have R0:=hD (r0.below hb2 (by omega))
    have BB:=hD (hbl.trans (hb2.mono (by omega)))
    have OO:=hD hown'
    clear r0 hown hrows hg hc hy hr hgr hb2 hown' hle
    have hk2:(k:Int)<(n:Int):=by omega
    have HRUN:=hD hrun
    clear hrun
    go_wp2_with (at_builtin;(with_reducible refine wpList_append_run (o:=⟨some 14,_,_,_,_,_⟩) ?_ (.tmp 12) (.tmp 13) ?_ ?_ ?_ ?_ HRUN.out ?_);(rfl);(rfl);(rfl);(rfl);(rfl))
    go_roundw
    case rel=>
     refine⟨k+1,by omega,by go_num,BB.out,R0.out,?_⟩
     rw[hst.out,lA,List.map_append]
     exact OO.out
    case measure=>simp[intOf];omega
  · obtain rfl:k=n:=by omega
    have hT:xss.take k=xss:=tL (by rw[HL.out];exact Nat.le_refl _)
    rw[hT]at hown
    obtain⟨A1,c1,rfl⟩:=q82 hown
    have hr: ∀x∈xss.flatten,0≤x∧x≤255:=by
     intro x hx
     obtain⟨l,hl,hxl⟩:=List.mem_flatten.1 hx
     obtain⟨j,hj,rfl⟩:=List.getElem_of_mem hl
     obtain⟨_,_,_,_,_,_,_,_,hr⟩:=HX.out j _ (gE hj)
     exact hr x hxl
    have hby:=q7W hown
    have R0:=hD r0
    clear hown r0 hrows hT
    have HRR:=hD hr
    have HBY:=hD hby
    clear hr hby
    generalize hFL:xss.flatten=fl at *
    have HFL:=hD hFL
    clear hFL
    obtain⟨q,hq⟩: ∃q,fl.length=q:=⟨_,rfl⟩
    rw[hq]
    have HQ:=hD hq
    have hs2:q≤70368744177664:=by omega
    clear hq
    go_wp2_with fail
    refine(q7J A1 q c1 fl wr HQ.out hs2 HBY.out HRR.out (ht.below hbl)).mono ?_
    rintro e w3 ⟨rfl,hb3⟩
    have hsz:Hid ((j0d 32 (j4x fl)).size=32∧(j0d 32 []).size=(j0d 32 (j4x fl)).size∧(j0d 32 (j4x fl)).all (·.oneCell')=true):=
     Lib.hid ⟨j0c _ _ (by rw[j1V];omega),by rw[j0c 32 (j4x fl) (by rw[j1V];omega),j0c 32 [] (by simp)],j0Q _ _⟩
    have Q0:Hid (w3.heap[w.heap.size]?=some (.cells (j0d 32 []) 26 (0,0))):=R0.out.below hb3 R0.out.lt
    have bl3:Below w.heap.size w w3:=hbl.trans (hb3.mono hbl.size)
    clear hb3 R0
    generalize hE:j0d 32 (j4x fl)=cs at *
    have HE:=hD hE
    clear hE
    generalize j0d 32 []=zs at *
    go_wp2_with (first
     |((with_reducible refine wpList_store_row (o:=⟨none, .store 26 _ _,_,_,_,_⟩) ?_ 26 (.tmp 2) (.tmp 17) ?_ w.heap.size cs ?_ ?_ 26 zs Q0.out (j08 cs hsz.out.1) hsz.out.2.1 hsz.out.2.2 ?_);(rfl);(rfl);(rfl);(rfl))
     |((with_reducible refine bodyPost_ret (v:= .agg cs) ?_ ?_ ?_);(exact results_cell_row (p:=2) (ty:=26) results65 _ _ w.heap.size 26 cs (0,0) _ rfl (setRow_heap _ _ zs cs 26 (0,0) Q0.out) underlying26 rfl (j08 cs hsz.out.1));(rfl)))
    exact⟨by rw[HFL.out,HE.out],j0G bl3 (Nat.le_refl _) _⟩
def InW(x:Int):Prop:=0≤x∧x<4294967296
theorem InW.mod(x:Int):InW (x % 4294967296):=⟨by omega,by omega⟩
theorem InW.getD(l:List Int)(h: ∀x∈l,InW x)(i:Nat):InW (l.getD i 0):=by
 by_cases hi:i<l.length
 · have e:l.getD i 0=l[i]:=by simp[List.getD,gE hi]
   rw[e]
   exact h _ (List.getElem_mem hi)
 · have e:l.getD i 0=0:=by simp[List.getD,gN (by omega:l.length≤i)]
   rw[e]
   exact⟨by omega,by omega⟩
structure S8.In(s:S8):Prop where
  a:InW s.a
  b:InW s.b
  c:InW s.c
  d:InW s.d
  e:InW s.e
  f:InW s.f
  g:InW s.g
  h:InW s.h
theorem S8.In.add(s t:S8):(s.add t).In:=⟨InW.mod _,InW.mod _,InW.mod _,InW.mod _,InW.mod _,InW.mod _,InW.mod _,InW.mod _⟩
def V8(B:Nat)(v:Value)(st:S8)(u:World):Prop:= ∃g cap cur,v= .slice (some ⟨g,0,none⟩) 8 cap∧B≤g∧Row u g 27 cur∧ ∀i,i<8→cur[i]?=some (.int .u32 (st.get i))
theorem S8.In.get{s:S8}(h:s.In)(k:Nat)(hk:k<8):InW (s.get k):=by
 rcases k with _|_|_|_|_|_|_|_|k
 · exact h.a
 · exact h.b
 · exact h.c
 · exact h.d
 · exact h.e
 · exact h.f
 · exact h.g
 · exact h.h
 · omega
theorem V8.mono{B B':Nat}{v:Value}{st:S8}{u:World}(h:V8 B v st u)(hB:B'≤B):V8 B' v st u:=by
 obtain⟨g,cap,cur,e,hg,hr,hc⟩:=h
 exact⟨g,cap,cur,e,by omega,hr,hc⟩
theorem j58{w:World}{g B n:Nat}{xs:List Int}(h:Row w g 5 (j0d n xs))(hl:xs.length=n)(hB:B≤g)(hn:n≤maxLen):OwnB w B (.slice (some ⟨g,0,none⟩) n n) xs:=by
 subst hl
 refine⟨by simp, .inr ⟨g,xs.length,j0d xs.length xs,rfl,hB,h,Nat.le_refl _,hn,by rw[j0c _ _ (Nat.le_refl _)];omega,?_⟩⟩
 rw[tL (by rw[Array.length_toList,j0c _ _ (Nat.le_refl _)];omega)]
 simp[j0d]
theorem OwnB.up{w:World}{B n c:Nat}{A:Option Addr}{xs:List Int}(h:OwnB w B (.slice A n c) xs):Bytes w w.heap.size A xs:=h.bytes.2
theorem j1n:(#[Value.int .u8 0,Value.int .u8 0,Value.int .u8 0,Value.int .u8 0,Value.int .u8 0,Value.int .u8 0,Value.int .u8 0,Value.int .u8 0,Value.int .u8 0,Value.int .u8 0,Value.int .u8 0,Value.int .u8 0,Value.int .u8 0,Value.int .u8 0,Value.int .u8 0,Value.int .u8 0,Value.int .u8 0,Value.int .u8 0,Value.int .u8 0,Value.int .u8 0,Value.int .u8 0,Value.int .u8 0,Value.int .u8 0,Value.int .u8 0,Value.int .u8 0,Value.int .u8 0,Value.int .u8 0,Value.int .u8 0,Value.int .u8 0,Value.int .u8 0,Value.int .u8 0,Value.int .u8 0]:Array Value)=j0d 32 []:=rfl
theorem j9Y{x:List Int}(h:x.length=32):j0d 32 x=(x.map u8v).toArray:=by unfold j0d;rw[h];simp
theorem q41{a b:List Int}(ha: ∀x∈a,0≤x∧x≤255)(hb: ∀x∈b,0≤x∧x≤255): ∀x∈j9R a b,0≤x∧x≤255:=by
 intro x hx
 unfold j9R at hx
 rcases List.mem_cons.1 hx with h|h
 · omega
 · rcases List.mem_append.1 h with h|h
   · exact ha x h
   · exact hb x h
def OwnF(w:World)(B:Nat)(v:Value)(l:List Bool):Prop:=w.ownsRow B 4 1 v l.length (l.map Value.bool)
theorem OwnF.nil(w:World)(B:Nat):OwnF w B (.slice none 0 0) []:=World.ownsRow_nil _ _ _ _
theorem q5U(a:Addr)(l j:Nat):(a.add l).add j=a.add (l+j):=by
 unfold Addr.add
 by_cases h:l=0
 · simp[h]
 · by_cases h2:j=0
   · simp[h,h2]
   · simp[h,h2,Nat.add_assoc]
section
variable {a:Act}{dst:Option Tmp}{x l h:Operand}{ty:TypeId}{pos:String}{after:Array Edge}{gd:Option (Nat × Bool)}
end
theorem j3v(xs:List Int): ∀x∈j4x xs,0≤x∧x≤255:=by
 have h: ∀(s:S8)(k:Nat),∀x∈j3g s k,0≤x∧x≤255:=by
  intro s k
  induction k with
  |zero=>intro x hx;cases hx
  |succ k ih=>
   intro x hx
   unfold j3g at hx
   rcases List.mem_append.1 hx with h|h
   · exact ih x h
   · unfold q3j at h
     simp at h
     omega
 unfold j4x
 exact h _ _
theorem q5D(a b:List Int):(j7p a b).length=32∧ ∀x∈j7p a b,0≤x∧x≤255:=⟨j1V _,j3v _⟩
theorem j3t{l:List (List Int)}(h:isIds l):(j1K l).length=32∧ ∀x∈j1K l,0≤x∧x≤255:=by
 by_cases h0:l.length=0
 · rw[List.eq_nil_of_length_eq_zero h0]
   exact⟨j1V _,j3v _⟩
 · by_cases h1:l.length=1
   · match l,h1 with
     |[x],_=>exact h x (List.mem_cons_self ..)
   · rw[q3t (by omega)]
     exact q5D _ _
theorem j1W{P:Program}{ops:Array Oper}{rest:List Oper}{o:Oper}{a:Act}{w:World}{Q:Exit→Act→World→Prop}{v:Value}(hgd:o.guard=none)(ty:TypeId)(x:Operand)(ho:o.op= .load ty x)(ad:Addr)(hx:a.eval x= .pointer (some ad))
  (hrun:(loadVar ty ad).run P w= .ok v w) (h:wpList P ops Q rest (a.put o.dst v) w):wpList P ops Q (o::rest) a w:=
 wpList_plain hgd fun _ hK=>by
  unfold Oper.wp execOp
  simp only[ho,hx,Instr.loadAt,Instr.sureAddr,Sem.run_bind,Sem.run_pure,Result.andThen_ok,hrun]
  exact hK _ _ h
def OwnI(w:World)(B:Nat)(v:Value)(l:List (List Int)):Prop:=w.ownsRow B 26 32 v l.length (l.flatten.map u8v)
theorem OwnI.nil(w:World)(B:Nat):OwnI w B (.slice none 0 0) []:=World.ownsRow_nil _ _ _ _
theorem OwnI.ids{w:World}{B n c:Nat}{A:Option Addr}{l:List (List Int)}(h:OwnI w B (.slice A n c) l):IdsIn w w.heap.size A l:=by
 intro hp
 have hl:=h.1
 rcases h.2 with ⟨e,e2⟩|⟨g,cap,cur,e,_,hg,_⟩
 · rw[lM,e2]at hl
   omega
 · injection e with e1 e2 e3
   subst e1
   refine⟨_,rfl,?_,fun j v hv=>h.cells (g:=g) rfl j v hv⟩
   exact Row.lt (t:=26) hg
theorem q3g:(Tryz.prog.info? 26).map (fun i=>(i.zero,i.size,i.bytes))=some (some (.agg (j0d 32 [])),32,32):=by kernel_rfl
theorem OwnI.append{w:World}{B:Nat}{v:Value}{l:List (List Int)}(h:OwnI w B v l){x:List Int}{ad:Addr}(hx:x.length=32)(hc: ∀j,j<32→w.cell? (ad.add j)=some (.int .u8 (x.getD j 0)))(hs:l.length≤1000000)(hB:B≤w.heap.size):
  ∃v' w',(Builtin.append_ #[35,35] 35 #[v, .slice (some ad) 1 1]).run Tryz.prog w= .ok v' w'∧OwnI w' B v' (l++[x])∧w.grownBy w' v.ownBlock∧(v'.ownBlock=v.ownBlock∨v'.ownBlock=some w.heap.size):=by
 cases hq:Tryz.prog.info? 26 with
 |none=>have:=q3g;rw[hq]at this;cases this
 | some i=>
  have hi:=q3g
  rw[hq]at hi
  simp only[Option.map_some,Option.some.injEq,Prod.mk.injEq]at hi
  obtain⟨h1,h2,h3⟩:=hi
  obtain⟨v',w',hrun,hown',hg,_,ho⟩:=run_append_own_at (P:=Tryz.prog) w B 35 35 26 i (.agg (j0d 32 [])) 32 32 underlying35 hq h1 h2 h3 (j0c _ _ (by simp)) (by decide) v l.length (l.flatten.map u8v) h
   ad 1 1 (x.map u8v) (by simp[hx]) (fun j u hu=>by
    have hj:j<x.length:=by
     rcases Nat.lt_or_ge j x.length with h'|h'
     · exact h'
     · rw[gN (by simpa using h')]at hu
       cases hu
    rw[hc j (by omega)]
    rw[List.getElem?_map,gE hj]at hu
    simp only[Option.map_some]at hu
    rw[←hu]
    simp[u8v,List.getD,gE hj]) (by intro u hu;obtain⟨z,_,rfl⟩:=List.mem_map.1 hu;rfl) (by unfold maxLen;omega) (by omega) hB
  refine⟨v',w',hrun,?_,hg,ho⟩
  unfold OwnI
  rw[lA,List.flatten_append,List.map_append]
  simpa using hown'
def FreshI(l:List (List Int))(x:Value)(N:j0e):Prop:=
  (∃g cap cur,x= .slice (some ⟨g,0,none⟩) l.length cap∧N=[(g,oc cur 26)]∧l.length≤cap∧cap≤maxLen∧cur.size=cap*32∧cur.toList.take (l.length*32)=l.flatten.map u8v)∨
  (x= .slice none 0 0∧N=[]∧l=[])
theorem OwnI.fresh{w:World}{B:Nat}{v:Value}{l:List (List Int)}(h:OwnI w B v l): ∃N,FreshI l v N∧ ∀y∈N,B≤y.1∧w.heap[y.1]?=some y.2∧v.ownBlock=some y.1:=by
 rcases h.2 with ⟨e,e0⟩|⟨g,cap,cur,rfl,h1,h2,h3,h4,h5,h6⟩
 · exact⟨[], .inr ⟨e,rfl,List.eq_nil_of_length_eq_zero e0⟩,fun y hy=>by cases hy⟩
 · refine⟨_, .inl ⟨g,cap,cur,rfl,rfl,h3,h4,h5,h6⟩,fun y hy=>?_⟩
   cases mS.1 hy
   exact⟨h1,h2,rfl⟩
theorem FreshI.own{w:World}{B:Nat}{v:Value}{l:List (List Int)}{N:j0e}(h:FreshI l v N)(hl:isIds l)(hN: ∀y∈N,B≤y.1∧w.heap[y.1]?=some y.2):OwnI w B v l:=by
 refine⟨by rw[lM];exact hl.flat_len,?_⟩
 rcases h with ⟨g,cap,cur,rfl,rfl,h3⟩|⟨rfl,rfl,rfl⟩
 · obtain⟨k1,k2⟩:=hN _ (mS.2 rfl)
   exact .inr ⟨g,cap,cur,rfl,k1,k2,h3⟩
 · exact .inl ⟨rfl,rfl⟩
theorem FreshI.full{v:Value}{l:List (List Int)}{N:j0e}(h:FreshI l v N)(hp:0<l.length): ∃g cap cur,v= .slice (some ⟨g,0,none⟩) l.length cap∧N=[(g,oc cur 26)]∧l.length≤cap∧cap≤maxLen∧cur.size=cap*32∧cur.toList.take (l.length*32)=l.flatten.map u8v:=by
 rcases h with h|⟨_,_,rfl⟩
 · exact h
 · cases hp
theorem FreshI.block{v:Value}{l:List (List Int)}{N:j0e}(h:FreshI l v N): ∀g,v.ownBlock=some g→ ∃o,(g,o)∈N:=by
 intro g hg
 rcases h with ⟨g',cap,cur,rfl,rfl,h3⟩|⟨rfl,rfl,rfl⟩
 · cases hg
   exact⟨_,mS.2 rfl⟩
 · cases hg
theorem j6w{f:FuncId}{args:Array Value}{u:World}{l:List (List Int)}(h:Calls Tryz.prog f args u fun e w'=>(∃v,e= .returned v∧OwnI w' u.heap.size v l)∧Below u.heap.size u w'):
  Calls Tryz.prog f args u fun e w''=> ∃x N,e= .returned x∧FreshI l x N∧Below u.heap.size u w''∧ ∀y∈N,u.heap.size≤y.1∧w''.heap[y.1]?=some y.2:=
 h.mono fun e w''⟨⟨v,he,ho⟩,hb⟩=>by
  obtain⟨N,hN,hm⟩:=ho.fresh
  exact⟨v,N,he,hN,hb,fun y hy=>⟨(hm y hy).1,(hm y hy).2.1⟩⟩
def q1o(r:List Int)(v:Value)(N:j0e):Prop:= ∃g,v= .slice (some ⟨g,0,none⟩) 1 1∧N=[(g,oc (j0d 32 r) 26)]
theorem q5v(r:List Int)(hr:r.length=32)(u:World):(Instr.buildSlice 35 1 #[(0, .agg (j0d 32 r))]).run Tryz.prog u= .ok (.slice (some ⟨u.heap.size,0,none⟩) 1 1) (u.alloc (.cells (j0d 32 r) 26)):=by
 cases hq:Tryz.prog.info? 26 with
 |none=>have:=q3g;rw[hq]at this;cases this
 |some i=>
  have hi:=q3g
  rw[hq]at hi
  simp only[Option.map_some,Option.some.injEq,Prod.mk.injEq]at hi
  obtain⟨h1,h2,h3⟩:=hi
  refine run_buildSlice u 35 26 1 _ (j0d 32 r) i (.agg (j0d 32 [])) underlying35 hq h1 (by omega) (by omega) ?_
  have hsz:(Value.agg (j0d 32 r)).cells.size=32:=j0c _ _ (by omega)
  rw[h2]
  have hf:=Great.fill_whole (s:=32) (by decide) [.agg (j0d 32 r)] ((Array.range (1*32)).map ((Value.agg (j0d 32 [])).cells[· % (Value.agg (j0d 32 [])).cells.size]!)) (by intro v hv;cases mS.1 hv;exact hsz) (by simp)
  simpa [Value.cells] using hf
theorem j47{r:List Int}(hr:r.length=32){a:Act}{dst:Option Tmp}{x:Operand}{ty:TypeId}{pos:String}{after:Array Edge}{gd:Option (Nat × Bool)}(hx:a.eval x=idv r)(u:World):
  FAt Tryz.prog ⟨dst, .buildSlice 35 1 #[(0,x)],ty,pos,after,gd⟩ a (q1o r) u:=by
 unfold FAt execOp
 unfold idv at hx
 simp only[List.map_toArray,List.map_cons,List.map_nil,hx,Sem.run_bind,Sem.run_pure,q5v r hr u,Result.andThen_ok]
 refine⟨(Below.refl _ _).alloc (Nat.le_refl _) _,_,⟨_,rfl,rfl⟩,fun y hy=>?_⟩
 cases mS.1 hy
 exact⟨Nat.le_refl _,heap_alloc_new u _⟩
def q3U(w0:World)(l:List (List Int))(M0:j0e)(v:Value)(M':j0e):Prop:= ∃N,M'=N++M0∧FreshI l v N∧j01 w0 N M0
theorem q11{w0 u:World}{M:j0e}(M0:j0e){N:j0e}{l:List (List Int)}{v:Value}{x:List Int}{g:Nat}{t:TypeId}{a:Act}{dst:Option Tmp}{y z:Operand}{pos:String}{after:Array Edge}{gd:Option (Nat × Bool)}
   (hu:EnvX w0 u M) (hl:isIds l) (hx:x.length=32) (hF:FreshI l v N) (hN: ∀y∈N,y∈M∧w0.heap.size≤y.1) (hg:(g,oc (j0d 32 x) t)∈M) (hM0: ∀z∈M0,z∈M∧ ∀y∈N,z.1≠y.1) (hs:l.length≤1000000)
   (hy:a.eval y=v) (hz:a.eval z= .slice (some ⟨g,0,none⟩) 1 1):
   ∃v' u' M',(execOp a.eval ⟨dst, .call {callee:= .builtin .append,args:= #[y,z],argTypes:= #[35,35]},35,pos,after,gd⟩).run Tryz.prog u= .ok (.value v') u'∧EnvX w0 u' M'∧q3U w0 (l++[x]) M0 v' M':=by
 have hown:OwnI u w0.heap.size v l:=hF.own hl (fun y hy=>⟨(hN y hy).2,hu.box _ _ (hN y hy).1⟩)
 have hrow:Row u g t (j0d 32 x):=hu.row hg
 have hcell: ∀j,j<32→u.cell? ((⟨g,0,none⟩:Addr).add j)=some (.int .u8 (x.getD j 0)):=by
   intro j hj
   rw[Addr.add_mid,Nat.zero_add]
   have hj':j<x.length:=by omega
   rw[hrow.cell]
   simp[j0d,hx,hj',u8v,gE hj']
 obtain⟨v',u',hrun,hown',hgr,hob⟩:=hown.append hx hcell hs hu.bel.size
 obtain⟨N',hF',hN'⟩:=hown'.fresh
 refine⟨v',u',N'++M0,?_,?_,N',rfl,hF',?_⟩
 · unfold execOp
   simp only[resolve,invoke,builtin,Sem.run_bind,Sem.run_pure,Result.andThen_ok,List.map_toArray,List.map_cons,List.map_nil,hy,hz,hrun]
 · have hbel:Below w0.heap.size u u':=j1B hgr (fun r hr=>(hown.lt r hr).1) hu.bel.size
   refine⟨hu.bel.trans hbel,fun g' o hm=>?_⟩
   rcases List.mem_append.1 hm with e|e
   · exact(hN' _ e).2.1
   · have hin:=hM0 _ e
     rw[hgr.block g' (hu.lt hin.1) (fun e2=>by
      obtain⟨o2,ho2⟩:=hF.block g' e2.symm
      exact hin.2 _ ho2 rfl)]
     exact hu.box _ _ hin.1
 · intro y hy
   refine⟨(hN' y hy).1,fun z hz e=>?_⟩
   have hb:=(hN' y hy).2.2
   have hin:=hM0 z hz
   rcases hob with h|h
   · obtain⟨o2,ho2⟩:=hF.block y.1 (h.symm.trans hb)
     exact hin.2 _ ho2 e
   · have h1:=hu.lt (g:=z.1) (o:=z.2) hin.1
     have h2:u.heap.size=y.1:=Option.some.inj (h.symm.trans hb)
     omega
section
variable {a:Act}{dst:Option Tmp}{x:Operand}{ty:TypeId}{pos:String}{after:Array Edge}{gd:Option (Nat × Bool)}
theorem q0m(a:Act):j3r Tryz.prog ⟨dst, .alloc 26,ty,pos,after,gd⟩ a (.cells (j0d 32 []) 26 (0,0)):=fun u=>by
 rw[←j1n]
 go_simp
theorem j1f{ad:Addr}{v:Value}(u:World)(hr:(loadVar 26 ad).run Tryz.prog u= .ok v u)(hx:a.eval x= .pointer (some ad)):
  (execOp a.eval ⟨dst, .load 26 x,ty,pos,after,gd⟩).run Tryz.prog u= .ok (.value v) u:=by
 unfold execOp
 simp only[hx,Instr.loadAt,Instr.sureAddr,Sem.run_bind,Sem.run_pure,Result.andThen_ok,hr]
theorem q5T{y:Operand}{xs ys:List Int}(hxl:xs.length=32)(hyl:ys.length=32)(u:World)(hx:a.eval x=idv xs)(hy:a.eval y=idv ys):
  (execOp a.eval ⟨dst, .binOp .eql 26 x y 26,ty,pos,after,gd⟩).run Tryz.prog u= .ok (.value (.bool (eqL xs ys))) u:=by
 unfold idv at hx hy
 have h:(Op.equalIn 10000 26 (.agg (j0d 32 xs)) (.agg (j0d 32 ys))).run Tryz.prog u= .ok (eqL xs ys) u:=j6y xs ys hxl hyl u
 unfold execOp
 simp only[hx,hy]
 go_simp
theorem j7u{y:Operand}{xs ys:List Int}(hxl:xs.length=32)(hyl:ys.length=32)(u:World)(hx:a.eval x=idv xs)(hy:a.eval y=idv ys):
  (execOp a.eval ⟨dst, .binOp .neq 26 x y 26,ty,pos,after,gd⟩).run Tryz.prog u= .ok (.value (.bool (!eqL xs ys))) u:=by
 unfold idv at hx hy
 have h:(Op.equalIn 10000 26 (.agg (j0d 32 xs)) (.agg (j0d 32 ys))).run Tryz.prog u= .ok (eqL xs ys) u:=j6y xs ys hxl hyl u
 unfold execOp
 simp only[hx,hy]
 go_simp
theorem j6n{y:Operand}{xs ys:List Int}{b:Bool}(hxl:xs.length=32)(hyl:ys.length=32)(hb:eqL xs ys=b)(u:World)(hx:a.eval x=idv xs)(hy:a.eval y=idv ys):
  (execOp a.eval ⟨dst, .binOp .eql 26 x y 26,ty,pos,after,gd⟩).run Tryz.prog u= .ok (.value (.bool b)) u:=by
 rw[←hb]
 exact q5T hxl hyl u hx hy
theorem x2P{y:Operand}{xs ys:List Int}{b:Bool}(hxl:xs.length=32)(hyl:ys.length=32)(hb:(!eqL xs ys)=b)(u:World)(hx:a.eval x=idv xs)(hy:a.eval y=idv ys):
  (execOp a.eval ⟨dst, .binOp .neq 26 x y 26,ty,pos,after,gd⟩).run Tryz.prog u= .ok (.value (.bool b)) u:=by
 rw[←hb]
 exact j7u hxl hyl u hx hy
theorem j21{w0 u:World}{M:j0e}{g:Nat}{t:TypeId}{r:List Int}(hu:EnvC w0 M u)(hm:(g,oc (j0d 32 r) t)∈M)(hr:r.length=32):(loadVar 26 ⟨g,0,none⟩).run Tryz.prog u= .ok (idv r) u:=
 j8l hr fun j hj=>by
  have hj':j<r.length:=by omega
  rw[Addr.add_mid,Nat.zero_add,Row.cell (EnvX.row hu hm)]
  simp[j0d,hr,hj',u8v,gE hj']
end
theorem OwnF.get{w:World}{B n c:Nat}{A:Option Addr}{s:List Bool}(h:OwnF w B (.slice A n c) s):s.length=n∧ ∀k,k<n→ ∃g,A=some ⟨g,0,none⟩∧g<w.heap.size∧w.cell? ⟨g,k,none⟩=some (.bool (s.getD k true)):=by
 rcases h.2 with ⟨e,e2⟩|⟨g,cap,cur,e,_,hg,_⟩
 · injection e with e1 e3 e4
   exact⟨by omega,fun k hk=>by omega⟩
 · injection e with e1 e3 e4
   refine⟨e3.symm,fun k hk=>⟨g,e1,Row.lt (t:=4) hg,?_⟩⟩
   have hk':k<s.length:=by omega
   have:=h.cells (g:=g) (by rw[e1];rfl) k (.bool (s.getD k true)) (by simp[List.getD,gE hk'])
   rwa[Addr.add_mid,Nat.zero_add]at this
theorem q3L{l q:List (List Int)}{k:Nat}(h:l.take k=q.take k)(h1:k<l.length)(h2:k<q.length)(e:l.getD k []=q.getD k []):l.take (k+1)=q.take (k+1):=by
 rw[List.take_add_one,List.take_add_one,h,gE h1,gE h2]
 rw[gD,gD,gE h1,gE h2]at e
 simp only[Option.getD_some]at e
 rw[e]
theorem IdsIn.loads{w:World}{A:Option Addr}{l:List (List Int)}(h:IdsIn w w.heap.size A l)(hl:isIds l){k:Nat}(hk:k<l.length): ∃ad,A=some ad∧ ∀u,EnvX w u []→(loadVar 26 (ad.add (k*32))).run Tryz.prog u= .ok (idv (l.getD k [])) u:=by
 obtain⟨ad,e,_⟩:=h.load hl hk
 refine⟨ad,e,fun u hu=>?_⟩
 obtain⟨ad2,e2,h2⟩:=(h.up (EnvX.bel hu)).load hl hk
 rw[e]at e2
 cases e2
 exact h2
theorem q9j (l q:List (List Int)) (A A':Option Addr) (n c m c':Nat) (w:World) (hl:l.length=n) (hq:q.length=m) (hn:n≤1000000) (hm:m≤1000000) (hnc:n≤c) (hc:c≤maxLen) (hmc:m≤c') (hc':c'≤maxLen) (hI:isIds l) (hJ:isIds q) (hA:IdsIn w w.heap.size A l) (hB:IdsIn w w.heap.size A' q):
   Rz 91 #[.slice A n c, .slice A' m c'] w (.bool (decide (l=q))):=by
 unfold Rz
 unfold maxLen at hc hc'
 have HL:=hD hl
 have HQ:=hD hq
 have HI:=hD (And.intro hI hA)
 have HJ:=hD (And.intro hJ hB)
 clear hI hA hJ hB hl hq
 by_cases hnm:n=m
 · subst hnm
   go_enter func91,ntmps91
   go_upto_region 4 with (fail)
   go_loopw [5] (fun i u=> ∃k:Nat,k≤n∧i= .int .i64 k∧Below w.heap.size w u∧Hid (l.take k=q.take k)) (fun i _=>n- (intOf i).toNat)
   case atStart=>exact⟨0,by omega,rfl,Below.refl _ _,rfl⟩
   case round=>
    obtain⟨k,hk,rfl,hbl,hsame⟩:=hrel
    by_cases hlt:k<n
    · have hk2:(k:Int)<(n:Int):=by omega
      obtain⟨a1,rfl,h1⟩:=HI.out.2.loads HI.out.1 (k:=k) (by rw[HL.out];exact hlt)
      obtain⟨a2,rfl,h2⟩:=HJ.out.2.loads HJ.out.1 (k:=k) (by rw[HQ.out];exact hlt)
      have H1:=hD h1
      have H2:=hD h2
      have E1:Hid (EnvX w wr []):=⟨hbl,fun _ _ h=>by cases h⟩
      have HX:=hD (HI.out.1.get (i:=k) (by rw[HL.out];exact hlt))
      have HY:=hD (HJ.out.1.get (i:=k) (by rw[HQ.out];exact hlt))
      have HST:=hD (q3L hsame.out (by rw[HL.out];exact hlt) (by rw[HQ.out];exact hlt))
      have HNE:Hid (l.getD k []≠q.getD k []→l≠q):=fun h e=>h (by rw[e])
      clear h1 h2 hsame hbl
      generalize l.getD k []=x at *
      generalize q.getD k []=y at *
      go_upto_region 6 with (fail)
      refine rgK [0,1,2,3,4,5,6,7,8] 0 E1 rfl fun hw=>?_
      refine qw 3 hw ?_
      refine qv rfl (fun u hu=>j1f u (H1.out u hu) rfl) hw ?_
      refine qw 3 hw ?_
      refine qv rfl (fun u hu=>j1f u (H2.out u hu) rfl) hw ?_
      refine qv rfl (fun u hu=>j7u HX.out.1 HY.out.1 u rfl rfl) hw ?_
      refine eH fun u3 EX2=>?_
      by_cases hxy:x=y
      · have hb:eqL x y=true:=by simp[eqL,hxy]
        rw[hb]
        go_wp2
        go_roundw
        case rel=>exact⟨k+1,by omega,by go_num,EnvX.bel EX2.out,HST.out hxy⟩
        case measure=>simp[intOf];omega
      · have hb:eqL x y=false:=by simp[eqL,hxy]
        have HR:Hid (decide (l=q)=false):=by
         show _=_
         simp[HNE.out hxy]
        rw[hb]
        go_wp2
        go_ret
        exact⟨by rw[HR.out];rfl,EnvX.bel EX2.out⟩
    · obtain rfl:k=n:=by omega
      have HR:Hid (decide (l=q)=true):=by
        have h:=hsame.out
        rw[tL (by rw[HL.out];exact Nat.le_refl _),tL (by rw[HQ.out];exact Nat.le_refl _)]at h
        show _=_
        simp[h]
      clear hsame
      go_wp2
      go_ret
      exact⟨by rw[HR.out];rfl,hbl⟩
 · have hne: ¬(n:Int)=(m:Int):=by omega
   have HR:Hid (decide (l=q)=false):=by
    show _=_
    have:l≠q:=fun e=>hnm (by rw[←HL.out,←HQ.out,e])
    simp[this]
   go_enter func91,ntmps91
   go_wp2
   go_ret
   exact⟨by rw[HR.out];rfl,Below.refl _ _⟩
section
variable {a:Act}{dst:Option Tmp}{x l h:Operand}{ty:TypeId}{pos:String}{after:Array Edge}{gd:Option (Nat × Bool)}
end
theorem q7F{w0 u:World}{M:j0e}{g cap:Nat}{cur:Array Value}{xs:List Int}(hu:EnvC w0 M u)(hm:(g,oc cur 5)∈M)(h:xs.length≤cap∧cap≤maxLen∧cur.size=cap*1∧cur.toList.take (xs.length*1)=xs.map u8v):Bytes u u.heap.size (some ⟨g,0,none⟩) xs:=by
 have:OwnB u 0 (.slice (some ⟨g,0,none⟩) xs.length cap) xs:=⟨by simp, .inr ⟨g,cap,cur,rfl,Nat.zero_le _,EnvX.box hu g _ hm,h.1,h.2.1,h.2.2.1,h.2.2.2⟩⟩
 exact this.bytes.2
def j3C(x:List Int):Prop:=x.length=32∧ ∀b∈x,0≤b∧b≤255
def I64(i:Int):Prop:= -9223372036854775808≤i∧i≤9223372036854775807
def z32:List Int:=List.replicate 32 0
def isB(l:List Int):Prop:= ∀x∈l,0≤x∧x≤255
theorem x24:isB []:=fun _ h=>by cases h
theorem isB_append{a b:List Int}:isB (a++b) ↔isB a∧isB b:=by
 unfold isB
 constructor
 · intro h
   exact⟨fun x hx=>h x (mL hx),fun x hx=>h x (mR hx)⟩
 · rintro⟨h1,h2⟩ x hx
   rcases List.mem_append.1 hx with h|h
   · exact h1 x h
   · exact h2 x h
def j2O(n:Nat):Nat→List Int
  |0=>[]
  |k+1=>j2O (n/256) k++[((n % 256:Nat):Int)]
theorem j0S(n k:Nat):(j2O n k).length=k:=by
 induction k generalizing n with
 |zero=>rfl
 |succ k ih=>unfold j2O;rw[lA,ih];rfl
theorem j2N(n k:Nat):isB (j2O n k):=by
 induction k generalizing n with
 |zero=>exact x24
 |succ k ih=>
  unfold j2O
  refine isB_append.2 ⟨ih _,fun x hx=>?_⟩
  cases mS.1 hx
  omega
theorem q2a(s:Int)(w:World):
   Calls Tryz.prog 172 #[.int .i64 s] w fun e w'=>e= .returned (.bool (decide (0≤s∧s≤8)))∧w=w':=by
 by_cases h0:0≤s
 · by_cases h1:s≤8
   · go_enter func172,ntmps172
     go_wp2
     go_ret
     exact⟨by simp[h0,h1],rfl⟩
   · go_enter func172,ntmps172
     go_wp2
     go_ret
     exact⟨by simp[h1],rfl⟩
 · go_enter func172,ntmps172
   go_wp2
   go_ret
   exact⟨by simp;omega,rfl⟩
theorem q0L(n i:Nat):j2O n (i+1)=((n/256^i % 256:Nat):Int)::j2O n i:=by
 induction i generalizing n with
 |zero=>simp[j2O]
 |succ i ih=>
  show j2O (n/256) (i+1)++[((n % 256:Nat):Int)]=_
  rw[ih,List.cons_append,Nat.div_div_eq_div_mul,Nat.pow_succ,Nat.mul_comm (256^i) 256]
  rfl
theorem x2L(n k i:Nat)(h:i<k):(j0d k (List.replicate (k- i) 0++j2O n i)).setIfInBounds (k- 1- i) (.int .u8 ((n/256^i % 256:Nat):Int))=j0d k (List.replicate (k- (i+1)) 0++j2O n (i+1)):=by
 have hl: ∀j,j≤k→(List.replicate (k- j) (0:Int)++j2O n j).length=k:=fun j hj=>by rw[lA,List.length_replicate,j0S];omega
 obtain⟨d,rfl⟩: ∃d,k=d+1+i:=⟨k- 1- i,by omega⟩
 rw[show d+1+i- i=d+1 by omega,show d+1+i- 1- i=d by omega,show d+1+i- (i+1)=d by omega,q0L,List.replicate_succ',aA]
 have hl1:=hl i (by omega)
 have hl2:=hl (i+1) (by omega)
 rw[show d+1+i- i=d+1 by omega,List.replicate_succ',aA]at hl1
 rw[show d+1+i- (i+1)=d by omega,q0L]at hl2
 apply j5E
 · omega
 · rw[Array.size_setIfInBounds,j0c _ _ (by omega)]
 · intro t ht
   rw[Array.getElem?_setIfInBounds,j0c _ _ (by omega)]
   by_cases e:d=t
   · subst e
     rw[if_pos rfl,if_pos (by omega)]
     simp[List.getD]
   · rw[if_neg e,j1U _ _ _ (by omega) ht]
     congr 2
     by_cases hlt:t<d
     · simp[List.getD,List.getElem?_append_left,hlt]
     · obtain⟨s,rfl⟩: ∃s,t=d+(s+1):=⟨t- d- 1,by omega⟩
       simp[List.getD,List.getElem?_append_right]
theorem q1J(n k:Nat)(w:World)(hn:n<18446744073709551616)(hk:k≤8):
  Calls Tryz.prog 113 #[.int .u64 n, .int .i64 k] w fun e w'=>(∃v,e= .returned v∧OwnB w' w.heap.size v (j2O n k))∧Below w.heap.size w w':=by
 have k8:(k:Int)≤8:=by omega
 have d0:(decide (0≤(k:Int)∧(k:Int)≤8))=true:=by simp;omega
 go_enter func113,ntmps113
 go_wp2_with fail
 refine(q2a (k:Int) w).mono ?_
 rintro e w1 ⟨rfl,rfl⟩
 rw[d0]
 go_wp2_with fail
 rw[j8P k (by omega)]
 go_wp2_with fail
 go_loopw [13] (fun i u=> ∃j:Nat,j≤k∧i= .int .i64 j∧Below w.heap.size w u∧Hid (Row u w.heap.size 5 (j0d k (List.replicate (k- j) 0++j2O n j)))) (fun i _=>k- (intOf i).toNat)
 case atStart=>
  refine⟨0,by omega,rfl,by go_grown,?_⟩
  have e:j0d k (List.replicate (k- 0) 0++j2O n 0)=j0d k []:=by simp[j2O,j0d]
  rw[e]
  exact Row.new w 5 _
 case round=>
  obtain⟨j,hj,rfl,hbl,hrows⟩:=hrel
  have r0:=hrows.out
  by_cases hlt:j<k
  · have hlt2:(j:Int)<(k:Int):=by omega
    have hj8:(j:Int)<8:=by omega
    have hj0:(0:Int)≤(j:Int):=by omega
    have hset:=x2L n k j hlt
    have e0:=(r0.cell (k- 1- j)).trans (j1U k _ (k- 1- j) (by rw[lA,List.length_replicate,j0S];omega) (by omega))
    have f0:=r0.frozen (k- 1- j)
    have hv:Hid ((n:Int) /2^ (8*j) % 256=((n/256^j % 256:Nat):Int)):=by
     show _=_
     rw[show (256:Nat)=2^8 from rfl,←Nat.pow_mul]
     simp
    have HS:=hD hset
    have R0:=hD r0
    clear hset r0 hrows
    generalize (List.replicate (k- j) 0++j2O n j).getD (k- 1- j) 0=z at *
    generalize j0d k (List.replicate (k- j) 0++j2O n j)=cs at *
    go_wp2_with fail
    go_roundw
    case rel=>
     refine⟨j+1,by omega,by go_num,hbl.setCell (by simp) _,?_⟩
     rw[←HS.out,←hv.out]
     exact R0.out.put _ _
    case measure=>simp[intOf];omega
  · obtain rfl:j=k:=by omega
    have r1:Row wr w.heap.size 5 (j0d j (j2O n j)):=by simpa using r0
    go_wp2
    go_ret
    exact⟨⟨_,rfl,j58 r1 (j0S _ _) (Nat.le_refl _) (by unfold maxLen;omega)⟩,hbl⟩
structure InR where
  tx:List Int
  i:Int
deriving DecidableEq
structure OutR where
  v:Int
  tw:Int
deriving DecidableEq
structure TxR where
  ins:List InR
  outs:List OutR
deriving DecidableEq
def j8a:TxR:=⟨[],[]⟩
def okIn(x:InR):Prop:=j3C x.tx∧I64 x.i
def q0l(o:OutR):Prop:=I64 o.v∧I64 o.tw
def okX(t:TxR):Prop:=(∀x∈t.ins,okIn x)∧ ∀o∈t.outs,q0l o
def q1a(x:InR):Bool:=decide (0≤x.i∧x.i≤2)
def j3E(o:OutR):Bool:=decide (1≤o.v∧o.v≤1099511627776∧0≤o.tw∧o.tw≤255)
def j4z(t:TxR):Bool:=decide (t.ins.length≤3∧1≤t.outs.length∧t.outs.length≤3∧(∀x∈t.ins,q1a x=true)∧t.ins.Nodup∧ ∀o∈t.outs,j3E o=true)
def j4g(a b:TxR):Bool:=decide (a=b)
def inB(x:InR):List Int:=x.tx++[x.i]
def x3s(o:OutR):List Int:=j2O o.v.toNat 6++[o.tw]
def j3K(t:TxR):List Int:=[(t.ins.length:Int)]++((t.ins.map inB).flatten++((t.outs.length:Int)::(t.outs.map x3s).flatten))
def j9M(t:TxR):List Int × Bool:=if j4z t then (j3K t,true)else ([],false)
def idX(t:TxR):List Int:=if j4z t then j4x (6::j3K t)else z32
def j7E(l:List TxR):List (List Int):=l.map idX
theorem mayX_iff{t:TxR}:j4z t=true↔(t.ins.length≤3∧1≤t.outs.length∧t.outs.length≤3∧(∀x∈t.ins,0≤x.i∧x.i≤2)∧t.ins.Nodup∧ ∀o∈t.outs,1≤o.v∧o.v≤1099511627776∧0≤o.tw∧o.tw≤255):=by
 unfold j4z q1a j3E
 simp only[decide_eq_true_eq]
theorem j8A(t:TxR):j3C (idX t):=by
 unfold idX
 split
 · exact⟨j1V _,j3v _⟩
 · exact⟨rfl,fun y hy=>by rw[List.eq_of_mem_replicate hy];decide⟩
theorem j5W(l:List TxR):isIds (j7E l):=fun x hx=>by
 obtain⟨t,_,rfl⟩:=List.mem_map.1 hx
 exact j8A t
theorem q3P{l:List InR}(h: ∀x∈l,okIn x): ∀r∈l.map inB,r.length=33:=fun r hr=>by
 obtain⟨x,hx,rfl⟩:=List.mem_map.1 hr
 unfold inB
 rw[lA,(h x hx).1.1]
 rfl
theorem q0y(l:List OutR): ∀r∈l.map x3s,r.length=7:=fun r hr=>by
 obtain⟨x,hx,rfl⟩:=List.mem_map.1 hr
 unfold x3s
 rw[lA,j0S]
 rfl
theorem flat_len{z:Nat}: ∀{L:List (List Int)},(∀r∈L,r.length=z)→L.flatten.length=z*L.length
 |[],_=>by simp
 |x::L,h=>by
  rw[List.flatten_cons,lA,h x (List.mem_cons_self ..),flat_len (L:=L) (fun r hr=>h r (mT hr)),List.length_cons,Nat.mul_succ]
  omega
theorem q7P{t:TxR}(h:okX t):(j3K t).length=2+33*t.ins.length+7*t.outs.length:=by
 have h1:=flat_len (q3P h.1)
 have h2:=flat_len (q0y t.outs)
 rw[lM]at h1 h2
 unfold j3K
 simp only[lA,List.length_cons,List.length_nil,h1,h2]
 omega
theorem q4i{t:TxR}(h:okX t)(hm:j4z t=true):isB (j3K t):=by
 obtain⟨h1,h2,h3,h4,_,h5⟩:=mayX_iff.1 hm
 unfold j3K
 rw[isB_append,isB_append]
 refine⟨fun y hy=>?_,fun y hy=>?_,fun y hy=>?_⟩
 · cases mS.1 hy;omega
 · obtain⟨r,hr,hy⟩:=List.mem_flatten.1 hy
   obtain⟨x,hx,rfl⟩:=List.mem_map.1 hr
   rcases List.mem_append.1 hy with e|e
   · exact(h.1 x hx).1.2 y e
   · cases mS.1 e
     have:=h4 x hx
     omega
 · rcases List.mem_cons.1 hy with e|e
   · omega
   · obtain⟨r,hr,hy⟩:=List.mem_flatten.1 e
     obtain⟨x,hx,rfl⟩:=List.mem_map.1 hr
     rcases List.mem_append.1 hy with e|e
     · exact j2N _ _ y e
     · cases mS.1 e
       have:=h5 x hx
       omega
def adc(x y c:Int):Int:=(x+y+c) % 18446744073709551616
def adk(x y c:Int):Int:=(x+y+c) /18446744073709551616
def sbc(x y c:Int):Int:=(x- y- c) % 18446744073709551616
def sbk(x y c:Int):Int:=if x<y+c then 1 else 0
theorem x4A(x y c:Int)(hx:0≤x)(hy:0≤y)(hc0:0≤c)(hc:c≤1)(w:World):(callFunc 201 #[.int .u64 x, .int .u64 y, .int .u64 c]).run Tryz.prog w=
  .ok (.value (.tuple #[.int .u64 (adc x y c), .int .u64 (adk x y c)])) w:=by
 rw[run_callFunc_extern func201 (by kernel_rfl) (by kernel_rfl) (by kernel_rfl) (e:=add64Entry) (by kernel_rfl),run_add64 x y c hx hy hc0 hc]
 rfl
theorem q8o(x y c:Nat)(hc:c≤1)(w:World):(callFunc 206 #[.int .u64 x, .int .u64 y, .int .u64 c]).run Tryz.prog w=
  .ok (.value (.tuple #[.int .u64 (((x+18446744073709551616- y- c) % 18446744073709551616:Nat):Int), .int .u64 ((if x<y+c then 1 else 0:Nat):Int)])) w:=by
 rw[run_callFunc_extern func206 (by kernel_rfl) (by kernel_rfl) (by kernel_rfl) (e:=(Extern.MathBitsCarry.rows[1]'(by decide)).2) (by kernel_rfl)]
 have:c=0∨c=1:=by omega
 rcases this with rfl|rfl<;>rfl
theorem x4y(x y c:Int)(hx:0≤x)(hy:0≤y)(hy':y<18446744073709551616)(hc0:0≤c)(hc:c≤1)(w:World):(callFunc 206 #[.int .u64 x, .int .u64 y, .int .u64 c]).run Tryz.prog w=
  .ok (.value (.tuple #[.int .u64 (sbc x y c), .int .u64 (sbk x y c)])) w:=by
 obtain⟨x,rfl⟩:=Int.eq_ofNat_of_zero_le hx
 obtain⟨y,rfl⟩:=Int.eq_ofNat_of_zero_le hy
 obtain⟨c,rfl⟩:=Int.eq_ofNat_of_zero_le hc0
 have e1:(((x+18446744073709551616- y- c) % 18446744073709551616:Nat):Int)=sbc x y c:=by unfold sbc;omega
 have e2:((if x<y+c then 1 else 0:Nat):Int)=sbk x y c:=by unfold sbk;split<;>split<;>omega
 rw[←e1,←e2]
 exact q8o x y c (by omega) w
theorem j8N(i:Int)(w:World)(h0:0≤i)(h1:i<32):
  Calls Tryz.prog 170 #[.int .i64 i] w fun e w'=>e= .returned (.int .i64 (3- i/8))∧w=w':=by
 go_enter func170,ntmps170
 go_wp2
 go_ret
 exact⟨rfl,rfl⟩
theorem q9f(xs:List Int)(i:Int)(w:World)(hx:xs.length=4)(h0:0≤i)(h1:i<4):
  Calls Tryz.prog 176 #[.agg (j2b 4 xs), .int .i64 i] w fun e w'=>e= .returned (.int .u64 (xs.getD i.toNat 0))∧w'=w.alloc (.cells (j2b 4 xs) 32):=by
 have e0:(w.alloc (.cells (j2b 4 xs) 32)).cell? ⟨w.heap.size,i.toNat,none⟩=some (.int .u64 (xs.getD i.toNat 0)):=((Row.new w 32 _).cell i.toNat).trans (j2p 4 _ _ (by omega) (by omega))
 have HX:=hD hx
 clear hx
 go_enter func176,ntmps176
 go_wp2
 go_ret
 exact⟨rfl,rfl⟩
theorem q9i(xs:List Int)(i:Int)(w:World)(h:i<0∨4≤i):
   Calls Tryz.prog 176 #[.agg (j2b 4 xs), .int .i64 i] w fun e w'=>e= .returned (.int .u64 0)∧w'=w.alloc (.cells (j2b 4 xs) 32):=by
 by_cases h0:i<0
 · clear h
   go_enter func176,ntmps176
   go_wp2
   go_ret
   exact⟨rfl,rfl⟩
 · have h1:4≤i:=by omega
   have h2:0≤i:=by omega
   clear h h0
   go_enter func176,ntmps176
   go_wp2
   go_ret
   exact⟨rfl,rfl⟩
theorem x1T(xs:List Int)(i:Int)(w:World)(hx:xs.length=4)(h0:0≤i)(h1:i<256):
  Calls Tryz.prog 218 #[.agg (j2b 4 xs), .int .i64 i] w fun e w'=>e= .returned (.int .u64 (bits .and .u64 (xs.getD (i/64).toNat 0/2^ (i % 64).toNat) 1))∧w'=w.alloc (.cells (j2b 4 xs) 32):=by
 have e0:(w.alloc (.cells (j2b 4 xs) 32)).cell? ⟨w.heap.size,(i/64).toNat,none⟩=some (.int .u64 (xs.getD (i/64).toNat 0)):=((Row.new w 32 _).cell _).trans (j2p 4 _ _ (by omega) (by omega))
 have q0:0≤i/64:=by omega
 have q1:i/64<4:=by omega
 have q2:0≤i % 64:=by omega
 have q3:i % 64<64:=by omega
 have HX:=hD hx
 clear hx
 go_enter func218,ntmps218
 go_wp2
 go_ret
 exact⟨rfl,rfl⟩
theorem x3T(n:Int)(w:World):
  Rz 119 #[.int .u64 n] w (.agg (j2b 4 [n,0,0,0])):=by
 unfold Rz
 go_enter func119,ntmps119
 go_wp2
 go_returns
 exact⟨rfl,by go_grown⟩
attribute [local go_sem ↓] Go.wp_at_zero Go.wp_at_succ
def q07(xs ys:List Int):Nat→Int
  |0=>0
  |k+1=>adk (xs.getD k 0) (ys.getD k 0) (q07 xs ys k)
def q2H(xs ys:List Int):Nat→List Int
  |0=>[]
  |k+1=>q2H xs ys k++[adc (xs.getD k 0) (ys.getD k 0) (q07 xs ys k)]
theorem j9b(xs ys:List Int)(k:Nat):(q2H xs ys k).length=k:=by
 induction k with
 |zero=>rfl
 |succ k ih=>simp[q2H,ih]
def q00(xs ys:List Int):Nat→Int
  |0=>0
  |k+1=>sbk (xs.getD k 0) (ys.getD k 0) (q00 xs ys k)
def q1W(xs ys:List Int):Nat→List Int
  |0=>[]
  |k+1=>q1W xs ys k++[sbc (xs.getD k 0) (ys.getD k 0) (q00 xs ys k)]
theorem j9v(xs ys:List Int)(k:Nat):(q1W xs ys k).length=k:=by
 induction k with
 |zero=>rfl
 |succ k ih=>simp[q1W,ih]
def q0U(xs:List Int):Prop:= ∀k,0≤xs.getD k 0∧xs.getD k 0<18446744073709551616
theorem q87(xs ys:List Int)(hx:q0U xs)(hy:q0U ys)(k:Nat):0≤q07 xs ys k∧q07 xs ys k≤1:=by
 induction k with
 |zero=>simp[q07]
 |succ k ih=>
  have:=hx k
  have:=hy k
  simp only[q07,adk]
  omega
theorem x02(xs ys:List Int)(k:Nat):0≤q00 xs ys k∧q00 xs ys k≤1:=by
 cases k with
 |zero=>simp[q00]
 |succ k=>
  simp only[q00,sbk]
  split<;>omega
theorem j3V(cs:Array Value)(h:cs.size=4):(Tryz.prog.info? 32).map (·.size)=some cs.size:=by rw[h];kernel_rfl
theorem q9g(xs ys:List Int)(w:World)(hx:xs.length=4)(hy:ys.length=4)(bx:q0U xs)(bY:q0U ys):
  Rz 165 #[.agg (j2b 4 xs), .agg (j2b 4 ys)] w (.tuple #[.agg (j2b 4 (q2H xs ys 4)), .bool (q07 xs ys 4==0)]):=by
 unfold Rz
 have HX:=hD hx
 have HY:=hD hy
 clear hx hy
 go_enter func165,ntmps165
 go_wp2_with fail
 go_loopw [7,9] (fun c i u=> ∃k:Nat,k≤4∧i= .int .i64 k∧c= .int .u64 (q07 xs ys k)∧Below w.heap.size w u∧Hid (Row u w.heap.size 32 (j2b 4 xs)∧Row u (w.heap.size+1) 32 (j2b 4 ys)∧Row u (w.heap.size+1+1) 32 (j2b 4 [])∧Row u (w.heap.size+1+1+1) 32 (j2b 4 (q2H xs ys k)))) (fun _ i _=>4- (intOf i).toNat)
 case atStart=>exact⟨0,by omega,rfl,rfl,by go_grown,(((Row.new w 32 _).alloc _).alloc _).alloc _,((Row.newAt (by simp) 32 _).alloc _).alloc _,(Row.newAt (by simp) 32 _).alloc _,Row.newAt (by simp) 32 _⟩
 case round=>
  obtain⟨k,hk,rfl,rfl,hbl,hrows⟩:=hrel
  obtain⟨r0,r1,r2,r3⟩:=hrows.out
  by_cases hlt:k<4
  · have e0:wr.cell? ⟨w.heap.size,k,none⟩=some (.int .u64 (xs.getD k 0)):=(r0.cell k).trans (j2p 4 _ k (by rw[HX.out];omega) hlt)
    have e1:wr.cell? ⟨w.heap.size+1,k,none⟩=some (.int .u64 (ys.getD k 0)):=(r1.cell k).trans (j2p 4 _ k (by rw[HY.out];omega) hlt)
    have e3:=(r3.cell k).trans (j2p 4 _ k (by rw[j9b];omega) hlt)
    have f3:=r3.frozen k
    have R0:=hD r0
    have R1:=hD r1
    have R2:=hD r2
    have R3:=hD r3
    have hc:=q87 xs ys bx bY k
    have hcall:=x4A (xs.getD k 0) (ys.getD k 0) (q07 xs ys k) (bx k).1 (bY k).1 hc.1 hc.2
    have hput:=hD (j4b 4 (q2H xs ys k) (adc (xs.getD k 0) (ys.getD k 0) (q07 xs ys k)) k (j9b _ _ _) hlt)
    have hL:Hid (q2H xs ys (k+1)=q2H xs ys k++[adc (xs.getD k 0) (ys.getD k 0) (q07 xs ys k)]):=rfl
    have hC:Hid (q07 xs ys (k+1)=adk (xs.getD k 0) (ys.getD k 0) (q07 xs ys k)):=rfl
    clear r0 r1 r2 r3 hrows hc
    have hk0:(0:Int)≤(k:Int):=by omega
    have hk4:(k:Int)<4:=by omega
    generalize xs.getD k 0=x at *
    generalize ys.getD k 0=y at *
    generalize q07 xs ys k=c at *
    generalize adc x y c=s at *
    generalize adk x y c=d at *
    generalize (q2H xs ys k).getD k 0=z at *
    have e0':(wr.setCell ⟨w.heap.size+1+1+1,k,none⟩ (.int .u64 s)).cell? ⟨w.heap.size,k,none⟩=some (.int .u64 x):=((R0.out.farAt (by omega) _).cell k).trans ((R0.out.cell k).symm.trans e0)
    have e1':(wr.setCell ⟨w.heap.size+1+1+1,k,none⟩ (.int .u64 s)).cell? ⟨w.heap.size+1,k,none⟩=some (.int .u64 y):=((R1.out.farAt (by omega) _).cell k).trans ((R1.out.cell k).symm.trans e1)
    go_wp2_with fail
    go_region_held3 (fun u=>u.cell? ⟨w.heap.size,k,none⟩=some (.int .u64 x)∧u.cell? ⟨w.heap.size+1,k,none⟩=some (.int .u64 y)) (first|exact⟨e0,e1⟩|exact⟨e0',e1'⟩) (fail)
    clear e0' e1' hcall
    go_wp2
    go_roundw
    case rel=>
     refine⟨k+1,by omega,by go_num,?_,(hbl.setCell (by simp;omega) _).drew,R0.out.farAt (by omega) _,R1.out.farAt (by omega) _,R2.out.farAt (by omega) _,?_⟩
     · rw[hC.out]
     · rw[hL.out,←hput.out]
       exact R3.out.put k _
    case measure=>simp[intOf];omega
  · obtain rfl:k=4:=by omega
    have hsz:=hD (j1X 4 (q2H xs ys 4) (by rw[j9b];omega))
    have hz0:=hD (j1X 4 [] (by simp))
    have ho:=hD (j5I 4 (q2H xs ys 4))
    have R2:Hid (wr.heap[w.heap.size+1+1]?=some (.cells (j2b 4 []) 32 (0,0))):=r2
    have R3:Hid (wr.heap[w.heap.size+1+1+1]?=some (.cells (j2b 4 (q2H xs ys 4)) 32 (0,0))):=r3
    clear r0 r1 r2 r3 hrows
    generalize hE:j2b 4 (q2H xs ys 4)=cs at *
    have HE:=hD hE
    clear hE
    generalize j2b 4 []=zs at *
    generalize hC:q07 xs ys 4=c at *
    have HC:=hD hC
    clear hC
    go_wp2_with (first
     |((with_reducible refine wpList_load_row (o:=⟨some 26,_,_,_,_,_⟩) ?_ 32 (.tmp 6) ?_ (w.heap.size+1+1+1) ?_ 32 cs (0,0) _ R3.out underlying32 ?_ (j3V cs hsz.out) ?_);(rfl);(rfl);(rfl);(rfl))
     |((with_reducible refine wpList_store_row (o:=⟨none, .store 32 _ _,_,_,_,_⟩) ?_ 32 (.tmp 4) (.tmp 26) ?_ (w.heap.size+1+1) cs ?_ ?_ 32 zs R2.out (j3V cs hsz.out) (by rw[hz0.out,hsz.out]) ho.out ?_);(rfl);(rfl);(rfl);(rfl))
     |((with_reducible refine bodyPost_ret (v:= .tuple #[.agg cs, .bool (c==0)]) ?_ ?_ ?_);(exact j0v (p:=4) (q:=5) (ty:=32) results165 _ _ (w.heap.size+1+1) 32 cs (0,0) _ rfl _ rfl (setRow_heap _ _ zs cs 32 (0,0) R2.out) underlying32 rfl (j3V cs hsz.out));(rfl)))
    exact⟨by rw[HE.out,HC.out],j0G hbl (by omega) _⟩
theorem x0I(xs ys:List Int)(w:World)(hx:xs.length=4)(hy:ys.length=4)(bx:q0U xs)(bY:q0U ys):
  Rz 177 #[.agg (j2b 4 xs), .agg (j2b 4 ys)] w (.tuple #[.agg (j2b 4 (q1W xs ys 4)), .bool (q00 xs ys 4==0)]):=by
 unfold Rz
 have HX:=hD hx
 have HY:=hD hy
 clear hx hy
 go_enter func177,ntmps177
 go_wp2_with fail
 go_loopw [7,9] (fun c i u=> ∃k:Nat,k≤4∧i= .int .i64 k∧c= .int .u64 (q00 xs ys k)∧Below w.heap.size w u∧Hid (Row u w.heap.size 32 (j2b 4 xs)∧Row u (w.heap.size+1) 32 (j2b 4 ys)∧Row u (w.heap.size+1+1) 32 (j2b 4 [])∧Row u (w.heap.size+1+1+1) 32 (j2b 4 (q1W xs ys k)))) (fun _ i _=>4- (intOf i).toNat)
 case atStart=>exact⟨0,by omega,rfl,rfl,by go_grown,(((Row.new w 32 _).alloc _).alloc _).alloc _,((Row.newAt (by simp) 32 _).alloc _).alloc _,(Row.newAt (by simp) 32 _).alloc _,Row.newAt (by simp) 32 _⟩
 case round=>
  obtain⟨k,hk,rfl,rfl,hbl,hrows⟩:=hrel
  obtain⟨r0,r1,r2,r3⟩:=hrows.out
  by_cases hlt:k<4
  · have e0:wr.cell? ⟨w.heap.size,k,none⟩=some (.int .u64 (xs.getD k 0)):=(r0.cell k).trans (j2p 4 _ k (by rw[HX.out];omega) hlt)
    have e1:wr.cell? ⟨w.heap.size+1,k,none⟩=some (.int .u64 (ys.getD k 0)):=(r1.cell k).trans (j2p 4 _ k (by rw[HY.out];omega) hlt)
    have e3:=(r3.cell k).trans (j2p 4 _ k (by rw[j9v];omega) hlt)
    have f3:=r3.frozen k
    have R0:=hD r0
    have R1:=hD r1
    have R2:=hD r2
    have R3:=hD r3
    have hc:=x02 xs ys k
    have hcall:=x4y (xs.getD k 0) (ys.getD k 0) (q00 xs ys k) (bx k).1 (bY k).1 (bY k).2 hc.1 hc.2
    have hput:=hD (j4b 4 (q1W xs ys k) (sbc (xs.getD k 0) (ys.getD k 0) (q00 xs ys k)) k (j9v _ _ _) hlt)
    have hL:Hid (q1W xs ys (k+1)=q1W xs ys k++[sbc (xs.getD k 0) (ys.getD k 0) (q00 xs ys k)]):=rfl
    have hC:Hid (q00 xs ys (k+1)=sbk (xs.getD k 0) (ys.getD k 0) (q00 xs ys k)):=rfl
    clear r0 r1 r2 r3 hrows hc
    have hk0:(0:Int)≤(k:Int):=by omega
    have hk4:(k:Int)<4:=by omega
    generalize xs.getD k 0=x at *
    generalize ys.getD k 0=y at *
    generalize q00 xs ys k=c at *
    generalize sbc x y c=s at *
    generalize sbk x y c=d at *
    generalize (q1W xs ys k).getD k 0=z at *
    have e0':(wr.setCell ⟨w.heap.size+1+1+1,k,none⟩ (.int .u64 s)).cell? ⟨w.heap.size,k,none⟩=some (.int .u64 x):=((R0.out.farAt (by omega) _).cell k).trans ((R0.out.cell k).symm.trans e0)
    have e1':(wr.setCell ⟨w.heap.size+1+1+1,k,none⟩ (.int .u64 s)).cell? ⟨w.heap.size+1,k,none⟩=some (.int .u64 y):=((R1.out.farAt (by omega) _).cell k).trans ((R1.out.cell k).symm.trans e1)
    go_wp2_with fail
    go_region_held3 (fun u=>u.cell? ⟨w.heap.size,k,none⟩=some (.int .u64 x)∧u.cell? ⟨w.heap.size+1,k,none⟩=some (.int .u64 y)) (first|exact⟨e0,e1⟩|exact⟨e0',e1'⟩) (fail)
    clear e0' e1' hcall
    go_wp2
    go_roundw
    case rel=>
     refine⟨k+1,by omega,by go_num,?_,(hbl.setCell (by simp;omega) _).drew,R0.out.farAt (by omega) _,R1.out.farAt (by omega) _,R2.out.farAt (by omega) _,?_⟩
     · rw[hC.out]
     · rw[hL.out,←hput.out]
       exact R3.out.put k _
    case measure=>simp[intOf];omega
  · obtain rfl:k=4:=by omega
    have hsz:=hD (j1X 4 (q1W xs ys 4) (by rw[j9v];omega))
    have hz0:=hD (j1X 4 [] (by simp))
    have ho:=hD (j5I 4 (q1W xs ys 4))
    have R2:Hid (wr.heap[w.heap.size+1+1]?=some (.cells (j2b 4 []) 32 (0,0))):=r2
    have R3:Hid (wr.heap[w.heap.size+1+1+1]?=some (.cells (j2b 4 (q1W xs ys 4)) 32 (0,0))):=r3
    clear r0 r1 r2 r3 hrows
    generalize hE:j2b 4 (q1W xs ys 4)=cs at *
    have HE:=hD hE
    clear hE
    generalize j2b 4 []=zs at *
    generalize hC:q00 xs ys 4=c at *
    have HC:=hD hC
    clear hC
    go_wp2_with (first
     |((with_reducible refine wpList_load_row (o:=⟨some 26,_,_,_,_,_⟩) ?_ 32 (.tmp 6) ?_ (w.heap.size+1+1+1) ?_ 32 cs (0,0) _ R3.out underlying32 ?_ (j3V cs hsz.out) ?_);(rfl);(rfl);(rfl);(rfl))
     |((with_reducible refine wpList_store_row (o:=⟨none, .store 32 _ _,_,_,_,_⟩) ?_ 32 (.tmp 4) (.tmp 26) ?_ (w.heap.size+1+1) cs ?_ ?_ 32 zs R2.out (j3V cs hsz.out) (by rw[hz0.out,hsz.out]) ho.out ?_);(rfl);(rfl);(rfl);(rfl))
     |((with_reducible refine bodyPost_ret (v:= .tuple #[.agg cs, .bool (c==0)]) ?_ ?_ ?_);(exact j0v (p:=4) (q:=5) (ty:=32) results177 _ _ (w.heap.size+1+1) 32 cs (0,0) _ rfl _ rfl (setRow_heap _ _ zs cs 32 (0,0) R2.out) underlying32 rfl (j3V cs hsz.out));(rfl)))
    exact⟨by rw[HE.out,HC.out],j0G hbl (by omega) _⟩
def Big:Nat:=115792089237316195423570985008687907853269984665640564039457584007913129639936
theorem j76:Big=2^256:=by decide+kernel
def wl(n:Nat):List Int:=[((n % 18446744073709551616:Nat):Int),((n/18446744073709551616 % 18446744073709551616:Nat):Int),((n/340282366920938463463374607431768211456 % 18446744073709551616:Nat):Int),((n/6277101735386680763835789423207666416102355444464034512896 % 18446744073709551616:Nat):Int)]
theorem j7d(n:Nat):(wl n).length=4:=rfl
theorem j6U(n:Nat):q0U (wl n):=by
 intro k
 rcases k with _|_|_|_|k
 · simp only[wl,List.getD_cons_zero];omega
 · simp only[wl,List.getD_cons_zero,List.getD_cons_succ];omega
 · simp only[wl,List.getD_cons_zero,List.getD_cons_succ];omega
 · simp only[wl,List.getD_cons_zero,List.getD_cons_succ];omega
 · simp[wl]
def mk4(a b c d:Nat):Nat:=a+18446744073709551616*b+340282366920938463463374607431768211456*c+6277101735386680763835789423207666416102355444464034512896*d
theorem j32(a b c d:Nat)(ha:a<18446744073709551616)(hb:b<18446744073709551616)(hc:c<18446744073709551616)(hd:d<18446744073709551616):wl (mk4 a b c d)=[(a:Int),(b:Int),(c:Int),(d:Int)]:=by
 have e0:mk4 a b c d % 18446744073709551616=a:=by unfold mk4;omega
 have e1:mk4 a b c d/18446744073709551616 % 18446744073709551616=b:=by unfold mk4;omega
 have e2:mk4 a b c d/340282366920938463463374607431768211456 % 18446744073709551616=c:=by unfold mk4;omega
 have e3:mk4 a b c d/6277101735386680763835789423207666416102355444464034512896 % 18446744073709551616=d:=by unfold mk4;omega
 unfold wl
 rw[e0,e1,e2,e3]
theorem q2X(a b c d:Nat)(ha:a<18446744073709551616)(hb:b<18446744073709551616)(hc:c<18446744073709551616)(hd:d<18446744073709551616):mk4 a b c d<Big:=by
 unfold mk4 Big;omega
theorem j7z(n:Nat)(h:n<Big): ∃a b c d:Nat,n=mk4 a b c d∧a<18446744073709551616∧b<18446744073709551616∧c<18446744073709551616∧d<18446744073709551616:=by
 refine⟨n % 18446744073709551616,n/18446744073709551616 % 18446744073709551616,n/340282366920938463463374607431768211456 % 18446744073709551616,n/6277101735386680763835789423207666416102355444464034512896,?_,by omega,by omega,by omega,by unfold Big at h;omega⟩
 unfold mk4;omega
theorem x4x(xs:List Int)(hl:xs.length=4)(hw:q0U xs): ∃n,n<Big∧xs=wl n:=by
 match xs,hl with
 |[a,b,c,d],_=>
  have h0:=hw 0
  have h1:=hw 1
  have h2:=hw 2
  have h3:=hw 3
  simp only[List.getD_cons_zero,List.getD_cons_succ]at h0 h1 h2 h3
  obtain⟨a,rfl⟩:=Int.eq_ofNat_of_zero_le h0.1
  obtain⟨b,rfl⟩:=Int.eq_ofNat_of_zero_le h1.1
  obtain⟨c,rfl⟩:=Int.eq_ofNat_of_zero_le h2.1
  obtain⟨d,rfl⟩:=Int.eq_ofNat_of_zero_le h3.1
  exact⟨mk4 a b c d,q2X a b c d (by omega) (by omega) (by omega) (by omega),(j32 a b c d (by omega) (by omega) (by omega) (by omega)).symm⟩
theorem x3C{m n:Nat}(hm:m<Big)(hn:n<Big)(h:wl m=wl n):m=n:=by
 obtain⟨a,b,c,d,rfl,ha,hb,hc,hd⟩:=j7z m hm
 obtain⟨a',b',c',d',rfl,ha',hb',hc',hd'⟩:=j7z n hn
 rw[j32 a b c d ha hb hc hd,j32 a' b' c' d' ha' hb' hc' hd']at h
 simp only[List.cons.injEq,Int.ofNat_inj,and_true]at h
 obtain⟨rfl,rfl,rfl,rfl⟩:=h
 rfl
theorem q7O(m n:Nat)(hm:m<Big)(hn:n<Big):q2H (wl m) (wl n) 4=wl ((m+n) % Big)∧(q07 (wl m) (wl n) 4==0)=decide (m+n<Big):=by
 obtain⟨a,b,c,d,rfl,ha,hb,hc,hd⟩:=j7z m hm
 obtain⟨a',b',c',d',rfl,ha',hb',hc',hd'⟩:=j7z n hn
 rw[j32 a b c d ha hb hc hd,j32 a' b' c' d' ha' hb' hc' hd']
 simp only[q2H,q07,adc,adk,List.getD_cons_zero,List.getD_cons_succ,List.nil_append,List.cons_append]
 have k0:((a:Int)+a'+0) /18446744073709551616=(((a+a') /18446744073709551616:Nat):Int):=by omega
 have s0:((a:Int)+a'+0) % 18446744073709551616=(((a+a') % 18446744073709551616:Nat):Int):=by omega
 rw[k0,s0]
 have l0:(a+a') /18446744073709551616≤1:=by omega
 have v0:a+a'=18446744073709551616*((a+a') /18446744073709551616)+(a+a') % 18446744073709551616:=by omega
 have w0:(a+a') % 18446744073709551616<18446744073709551616:=by omega
 generalize (a+a') /18446744073709551616=q0 at *
 generalize (a+a') % 18446744073709551616=r0 at *
 have k1:((b:Int)+b'+q0) /18446744073709551616=(((b+b'+q0) /18446744073709551616:Nat):Int):=by omega
 have s1:((b:Int)+b'+q0) % 18446744073709551616=(((b+b'+q0) % 18446744073709551616:Nat):Int):=by omega
 rw[k1,s1]
 have l1:(b+b'+q0) /18446744073709551616≤1:=by omega
 have v1:b+b'+q0=18446744073709551616*((b+b'+q0) /18446744073709551616)+(b+b'+q0) % 18446744073709551616:=by omega
 have w1:(b+b'+q0) % 18446744073709551616<18446744073709551616:=by omega
 generalize (b+b'+q0) /18446744073709551616=q1 at *
 generalize (b+b'+q0) % 18446744073709551616=r1 at *
 have k2:((c:Int)+c'+q1) /18446744073709551616=(((c+c'+q1) /18446744073709551616:Nat):Int):=by omega
 have s2:((c:Int)+c'+q1) % 18446744073709551616=(((c+c'+q1) % 18446744073709551616:Nat):Int):=by omega
 rw[k2,s2]
 have l2:(c+c'+q1) /18446744073709551616≤1:=by omega
 have v2:c+c'+q1=18446744073709551616*((c+c'+q1) /18446744073709551616)+(c+c'+q1) % 18446744073709551616:=by omega
 have w2:(c+c'+q1) % 18446744073709551616<18446744073709551616:=by omega
 generalize (c+c'+q1) /18446744073709551616=q2 at *
 generalize (c+c'+q1) % 18446744073709551616=r2 at *
 have k3:((d:Int)+d'+q2) /18446744073709551616=(((d+d'+q2) /18446744073709551616:Nat):Int):=by omega
 have s3:((d:Int)+d'+q2) % 18446744073709551616=(((d+d'+q2) % 18446744073709551616:Nat):Int):=by omega
 rw[k3,s3]
 have l3:(d+d'+q2) /18446744073709551616≤1:=by omega
 have v3:d+d'+q2=18446744073709551616*((d+d'+q2) /18446744073709551616)+(d+d'+q2) % 18446744073709551616:=by omega
 have w3:(d+d'+q2) % 18446744073709551616<18446744073709551616:=by omega
 generalize (d+d'+q2) /18446744073709551616=q3 at *
 generalize (d+d'+q2) % 18446744073709551616=r3 at *
 clear k0 k1 k2 k3 s0 s1 s2 s3
 have hs:mk4 a b c d+mk4 a' b' c' d'=mk4 r0 r1 r2 r3+Big*q3:=by unfold mk4 Big;omega
 have hlt:=q2X r0 r1 r2 r3 w0 w1 w2 w3
 have hmod:(mk4 a b c d+mk4 a' b' c' d') % Big=mk4 r0 r1 r2 r3:=by rw[hs,Nat.add_mul_mod_self_left,Nat.mod_eq_of_lt hlt]
 rw[hmod,j32 r0 r1 r2 r3 w0 w1 w2 w3,hs]
 refine⟨rfl,?_⟩
 rw[Bool.eq_iff_iff]
 simp only[beq_iff_eq,decide_eq_true_eq]
 have:q3=0∨q3=1:=by omega
 rcases this with rfl|rfl
 · simp[hlt]
 · simp
theorem q6U(m n:Nat)(hm:m<Big)(hn:n<Big):q1W (wl m) (wl n) 4=wl ((m+(Big- n)) % Big)∧(q00 (wl m) (wl n) 4==0)=decide (n≤m):=by
 obtain⟨a,b,c,d,rfl,ha,hb,hc,hd⟩:=j7z m hm
 obtain⟨a',b',c',d',rfl,ha',hb',hc',hd'⟩:=j7z n hn
 rw[j32 a b c d ha hb hc hd,j32 a' b' c' d' ha' hb' hc' hd']
 simp only[q1W,q00,sbc,List.getD_cons_zero,List.getD_cons_succ,List.nil_append,List.cons_append]
 have step: ∀(x y q:Nat),x<18446744073709551616→y<18446744073709551616→q≤1→ ∃r q':Nat,((x:Int) - y- q) % 18446744073709551616=(r:Int)∧sbk x y q=(q':Int)∧r<18446744073709551616∧q'≤1∧x+18446744073709551616*q'=y+q+r:=by
  intro x y q hx hy hq
  by_cases h:(x:Int)<y+q
  · exact⟨x+18446744073709551616- y- q,1,by omega,by simp[sbk,h],by omega,by omega,by omega⟩
  · exact⟨x- y- q,0,by omega,by simp[sbk,h],by omega,by omega,by omega⟩
 obtain⟨r0,q0,e0,f0,w0,l0,v0⟩:=step a a' 0 ha ha' (by omega)
 rw[show ((0:Nat):Int)=0 from rfl]at e0 f0
 rw[e0,f0]
 obtain⟨r1,q1,e1,f1,w1,l1,v1⟩:=step b b' q0 hb hb' l0
 rw[e1,f1]
 obtain⟨r2,q2,e2,f2,w2,l2,v2⟩:=step c c' q1 hc hc' l1
 rw[e2,f2]
 obtain⟨r3,q3,e3,f3,w3,l3,v3⟩:=step d d' q2 hd hd' l2
 rw[e3,f3]
 clear step e0 e1 e2 e3 f0 f1 f2 f3
 have hs:mk4 a b c d+Big*q3=mk4 a' b' c' d'+mk4 r0 r1 r2 r3:=by unfold mk4 Big;omega
 have hlt:=q2X r0 r1 r2 r3 w0 w1 w2 w3
 have hmod:(mk4 a b c d+(Big- mk4 a' b' c' d')) % Big=mk4 r0 r1 r2 r3:=by
  have:q3=0∨q3=1:=by omega
  rcases this with rfl|rfl
  · rw[show mk4 a b c d+(Big- mk4 a' b' c' d')=mk4 r0 r1 r2 r3+Big by omega,Nat.add_mod_right,Nat.mod_eq_of_lt hlt]
  · rw[show mk4 a b c d+(Big- mk4 a' b' c' d')=mk4 r0 r1 r2 r3 by omega,Nat.mod_eq_of_lt hlt]
 rw[hmod,j32 r0 r1 r2 r3 w0 w1 w2 w3]
 refine⟨rfl,?_⟩
 rw[Bool.eq_iff_iff]
 simp only[beq_iff_eq,decide_eq_true_eq]
 have:q3=0∨q3=1:=by omega
 rcases this with rfl|rfl
 · simp;omega
 · simp;omega
attribute [local go_sem ↓] Go.wp_at_zero Go.wp_at_succ
def j6o(xs:List Int)(i:Int):Int:=if 0≤i∧i<4 then xs.getD i.toNat 0 else 0
theorem x1r(x0 x1 x2 x3 i:Int)(w:World):
   Calls Tryz.prog 176 #[.agg #[.int .u64 x0, .int .u64 x1, .int .u64 x2, .int .u64 x3], .int .i64 i] w fun e w'=>e= .returned (.int .u64 (j6o [x0,x1,x2,x3] i))∧w'=w.alloc (.cells #[.int .u64 x0, .int .u64 x1, .int .u64 x2, .int .u64 x3] 32):=by
 by_cases h:0≤i∧i<4
 · refine(q9f [x0,x1,x2,x3] i w rfl h.1 h.2).mono ?_
   rintro e w' ⟨rfl,rfl⟩
   exact⟨by unfold j6o;rw[if_pos h],rfl⟩
 · refine(q9i [x0,x1,x2,x3] i w (by omega)).mono ?_
   rintro e w' ⟨rfl,rfl⟩
   exact⟨by unfold j6o;rw[if_neg h],rfl⟩
def upW(xs:List Int)(p r:Int)(k:Nat):Int:=bits .or .u64 (IntKind.u64.wrap (j6o xs (k- p)*2^r.toNat)) (j6o xs (k- p- 1) /2^ (64- r).toNat)
def upL(xs:List Int)(p r:Int):Nat→List Int
  |0=>[]
  |k+1=>upL xs p r k++[upW xs p r k]
theorem q2C(xs:List Int)(p r:Int)(k:Nat):(upL xs p r k).length=k:=by
 induction k with
 |zero=>rfl
 |succ k ih=>simp[upL,ih]
def q5X(xs:List Int)(p r:Int)(k:Nat):Int:=bits .or .u64 (j6o xs (k+p) /2^r.toNat) (IntKind.u64.wrap (j6o xs (k+p+1)*2^ (64- r).toNat))
def j5q(xs:List Int)(p r:Int):Nat→List Int
  |0=>[]
  |k+1=>j5q xs p r k++[q5X xs p r k]
theorem j7V(xs:List Int)(p r:Int)(k:Nat):(j5q xs p r k).length=k:=by
 induction k with
 |zero=>rfl
 |succ k ih=>simp[j5q,ih]
theorem x26(x0 x1 x2 x3 n:Int)(w:World)(h0:0≤n)(h1:n≤9223372036854775807):
  Rz 118 #[.agg (j2b 4 [x0,x1,x2,x3]), .int .i64 n] w (.agg (j2b 4 (upL [x0,x1,x2,x3] (n/64) (n % 64) 4))):=by
 unfold Rz
 go_enter func118,ntmps118
 go_wp2_with fail
 have p0:0≤n/64:=by omega
 have p1:n/64≤144115188075855872:=by omega
 have r0:0≤n % 64:=by omega
 have r1:n % 64<64:=by omega
 generalize hp:n/64=p at *
 generalize hr:n % 64=r at *
 have HP:=hD hp
 have HR:=hD hr
 clear hp hr h0 h1
 go_loopw [16] (fun i u=> ∃k:Nat,k≤4∧i= .int .i64 k∧Below w.heap.size w u∧Hid (Row u w.heap.size 32 (j2b 4 [x0,x1,x2,x3])∧Row u (w.heap.size+1) 32 (j2b 4 [])∧Row u (w.heap.size+1+1) 32 (j2b 4 (upL [x0,x1,x2,x3] p r k)))) (fun i _=>4- (intOf i).toNat)
 case atStart=>exact⟨0,by omega,rfl,by go_grown,((Row.new w 32 _).alloc _).alloc _,(Row.newAt (by simp) 32 _).alloc _,Row.newAt (by simp) 32 _⟩
 case round=>
  obtain⟨k,hk,rfl,hbl,hrows⟩:=hrel
  obtain⟨r0',r1',r2⟩:=hrows.out
  by_cases hlt:k<4
  · have R0:=hD r0'
    have R1:=hD r1'
    have R2:=hD r2
    have e2:=(r2.cell k).trans (j2p 4 _ k (by rw[q2C];omega) hlt)
    have f2:=r2.frozen k
    have hput:=hD (j4b 4 (upL [x0,x1,x2,x3] p r k) (upW [x0,x1,x2,x3] p r k) k (q2C _ _ _ _) hlt)
    have hL:Hid (upL [x0,x1,x2,x3] p r (k+1)=upL [x0,x1,x2,x3] p r k++[upW [x0,x1,x2,x3] p r k]):=rfl
    have hk0:(0:Int)≤(k:Int):=by omega
    have hk4:(k:Int)<4:=by omega
    have d1:IntKind.i64.wrap ((k:Int) - p)=(k:Int) - p:=by rw[IntWalk.i64_in _ (by omega)]
    have d2:IntKind.i64.wrap ((k:Int) - p- 1)=(k:Int) - p- 1:=by rw[IntWalk.i64_in _ (by omega)]
    have d3:IntKind.i64.wrap (64- r)=64- r:=by rw[IntWalk.i64_in _ (by omega)]
    have d4:0≤64- r:=by omega
    have c0:wr.cell? ⟨w.heap.size,0,none⟩=some (.int .u64 x0):=(r0'.cell 0).trans rfl
    have c1:wr.cell? ⟨w.heap.size,1,none⟩=some (.int .u64 x1):=(r0'.cell 1).trans rfl
    have c2:wr.cell? ⟨w.heap.size,2,none⟩=some (.int .u64 x2):=(r0'.cell 2).trans rfl
    have c3:wr.cell? ⟨w.heap.size,3,none⟩=some (.int .u64 x3):=(r0'.cell 3).trans rfl
    have s2:=r2.lt
    have s0:w.heap.size<wr.heap.size:=by omega
    have s1:w.heap.size+1<wr.heap.size:=by omega
    clear r0' r1' r2 hrows
    generalize (upL [x0,x1,x2,x3] p r k).getD k 0=z at *
    go_wp2_with fail
    go_region_held3 (fun u=>u.cell? ⟨w.heap.size,0,none⟩=some (.int .u64 x0)∧u.cell? ⟨w.heap.size,1,none⟩=some (.int .u64 x1)∧u.cell? ⟨w.heap.size,2,none⟩=some (.int .u64 x2)∧u.cell? ⟨w.heap.size,3,none⟩=some (.int .u64 x3)) (first|exact⟨c0,c1,c2,c3⟩|(simp[go_sem,World.cell?_alloc_past,s0,s2,c0,c1,c2,c3];done)) (first|(go_at_call 176;refine(x1r _ _ _ _ _ _).mono ?_;rintro e w' ⟨rfl,rfl⟩))
    clear d1 d2 d3 d4
    go_wp2
    go_roundw
    case rel=>
     refine⟨k+1,by omega,by go_num,(((hbl.setCell (by simp;omega) _).alloc (by simp;omega) _).alloc (by simp;omega) _).drew,((R0.out.farAt (by omega) _).alloc _).alloc _,((R1.out.farAt (by omega) _).alloc _).alloc _,?_⟩
     rw[hL.out,←hput.out]
     exact((R2.out.put k _).alloc _).alloc _
    case measure=>simp[intOf];omega
  · obtain rfl:k=4:=by omega
    have hsz:=hD (j1X 4 (upL [x0,x1,x2,x3] p r 4) (by rw[q2C];omega))
    have hz0:=hD (j1X 4 [] (by simp))
    have ho:=hD (j5I 4 (upL [x0,x1,x2,x3] p r 4))
    have R1:Hid (wr.heap[w.heap.size+1]?=some (.cells (j2b 4 []) 32 (0,0))):=r1'
    have R2:Hid (wr.heap[w.heap.size+1+1]?=some (.cells (j2b 4 (upL [x0,x1,x2,x3] p r 4)) 32 (0,0))):=r2
    clear r0' r1' r2 hrows
    generalize hE:j2b 4 (upL [x0,x1,x2,x3] p r 4)=cs at *
    have HE:=hD hE
    clear hE
    generalize j2b 4 []=zs at *
    go_wp2_with (first
     |((with_reducible refine wpList_load_row (o:=⟨some 39,_,_,_,_,_⟩) ?_ 32 (.tmp 5) ?_ (w.heap.size+1+1) ?_ 32 cs (0,0) _ R2.out underlying32 ?_ (j3V cs hsz.out) ?_);(rfl);(rfl);(rfl);(rfl))
     |((with_reducible refine wpList_store_row (o:=⟨none, .store 32 _ _,_,_,_,_⟩) ?_ 32 (.tmp 4) (.tmp 39) ?_ (w.heap.size+1) cs ?_ ?_ 32 zs R1.out (j3V cs hsz.out) (by rw[hz0.out,hsz.out]) ho.out ?_);(rfl);(rfl);(rfl);(rfl))
     |((with_reducible refine bodyPost_ret (v:= .agg cs) ?_ ?_ ?_);(exact results_cell_row (p:=4) (ty:=32) results118 _ _ (w.heap.size+1) 32 cs (0,0) _ rfl (setRow_heap _ _ zs cs 32 (0,0) R1.out) underlying32 rfl (j3V cs hsz.out));(rfl)))
    exact⟨by rw[HP.out,HR.out,HE.out],j0G hbl (by omega) _⟩
theorem x3z(x0 x1 x2 x3 n:Int)(w:World)(h0:n<0):
  Rz 118 #[.agg (j2b 4 [x0,x1,x2,x3]), .int .i64 n] w (.agg (j2b 4 [x0,x1,x2,x3])):=by
 unfold Rz
 change Calls Tryz.prog 118 #[.agg #[.int .u64 x0, .int .u64 x1, .int .u64 x2, .int .u64 x3], .int .i64 n] w fun e w'=>e= .returned (.agg #[.int .u64 x0, .int .u64 x1, .int .u64 x2, .int .u64 x3])∧Below w.heap.size w w'
 go_enter func118,ntmps118
 go_wp2
 go_returns
 exact⟨rfl,by go_grown⟩
theorem q5E(x0 x1 x2 x3 n:Int)(w:World)(h0:0≤n)(h1:n≤9223372036854775807):
  Rz 123 #[.agg (j2b 4 [x0,x1,x2,x3]), .int .i64 n] w (.agg (j2b 4 (j5q [x0,x1,x2,x3] (n/64) (n % 64) 4))):=by
 unfold Rz
 go_enter func123,ntmps123
 go_wp2_with fail
 have p0:0≤n/64:=by omega
 have p1:n/64≤144115188075855872:=by omega
 have r0:0≤n % 64:=by omega
 have r1:n % 64<64:=by omega
 generalize hp:n/64=p at *
 generalize hr:n % 64=r at *
 have HP:=hD hp
 have HR:=hD hr
 clear hp hr h0 h1
 go_loopw [16] (fun i u=> ∃k:Nat,k≤4∧i= .int .i64 k∧Below w.heap.size w u∧Hid (Row u w.heap.size 32 (j2b 4 [x0,x1,x2,x3])∧Row u (w.heap.size+1) 32 (j2b 4 [])∧Row u (w.heap.size+1+1) 32 (j2b 4 (j5q [x0,x1,x2,x3] p r k)))) (fun i _=>4- (intOf i).toNat)
 case atStart=>exact⟨0,by omega,rfl,by go_grown,((Row.new w 32 _).alloc _).alloc _,(Row.newAt (by simp) 32 _).alloc _,Row.newAt (by simp) 32 _⟩
 case round=>
  obtain⟨k,hk,rfl,hbl,hrows⟩:=hrel
  obtain⟨r0',r1',r2⟩:=hrows.out
  by_cases hlt:k<4
  · have R0:=hD r0'
    have R1:=hD r1'
    have R2:=hD r2
    have e2:=(r2.cell k).trans (j2p 4 _ k (by rw[j7V];omega) hlt)
    have f2:=r2.frozen k
    have hput:=hD (j4b 4 (j5q [x0,x1,x2,x3] p r k) (q5X [x0,x1,x2,x3] p r k) k (j7V _ _ _ _) hlt)
    have hL:Hid (j5q [x0,x1,x2,x3] p r (k+1)=j5q [x0,x1,x2,x3] p r k++[q5X [x0,x1,x2,x3] p r k]):=rfl
    have hk0:(0:Int)≤(k:Int):=by omega
    have hk4:(k:Int)<4:=by omega
    have d1:IntKind.i64.wrap ((k:Int)+p)=(k:Int)+p:=by rw[IntWalk.i64_in _ (by omega)]
    have d2:IntKind.i64.wrap ((k:Int)+p+1)=(k:Int)+p+1:=by rw[IntWalk.i64_in _ (by omega)]
    have d3:IntKind.i64.wrap (64- r)=64- r:=by rw[IntWalk.i64_in _ (by omega)]
    have d4:0≤64- r:=by omega
    have c0:wr.cell? ⟨w.heap.size,0,none⟩=some (.int .u64 x0):=(r0'.cell 0).trans rfl
    have c1:wr.cell? ⟨w.heap.size,1,none⟩=some (.int .u64 x1):=(r0'.cell 1).trans rfl
    have c2:wr.cell? ⟨w.heap.size,2,none⟩=some (.int .u64 x2):=(r0'.cell 2).trans rfl
    have c3:wr.cell? ⟨w.heap.size,3,none⟩=some (.int .u64 x3):=(r0'.cell 3).trans rfl
    have s2:=r2.lt
    have s0:w.heap.size<wr.heap.size:=by omega
    have s1:w.heap.size+1<wr.heap.size:=by omega
    clear r0' r1' r2 hrows
    generalize (j5q [x0,x1,x2,x3] p r k).getD k 0=z at *
    go_wp2_with fail
    go_region_held3 (fun u=>u.cell? ⟨w.heap.size,0,none⟩=some (.int .u64 x0)∧u.cell? ⟨w.heap.size,1,none⟩=some (.int .u64 x1)∧u.cell? ⟨w.heap.size,2,none⟩=some (.int .u64 x2)∧u.cell? ⟨w.heap.size,3,none⟩=some (.int .u64 x3)) (first|exact⟨c0,c1,c2,c3⟩|(simp[go_sem,World.cell?_alloc_past,s0,s2,c0,c1,c2,c3];done)) (first|(go_at_call 176;refine(x1r _ _ _ _ _ _).mono ?_;rintro e w' ⟨rfl,rfl⟩))
    clear d1 d2 d3 d4
    go_wp2
    go_roundw
    case rel=>
     refine⟨k+1,by omega,by go_num,(((hbl.setCell (by simp;omega) _).alloc (by simp;omega) _).alloc (by simp;omega) _).drew,((R0.out.farAt (by omega) _).alloc _).alloc _,((R1.out.farAt (by omega) _).alloc _).alloc _,?_⟩
     rw[hL.out,←hput.out]
     exact((R2.out.put k _).alloc _).alloc _
    case measure=>simp[intOf];omega
  · obtain rfl:k=4:=by omega
    have hsz:=hD (j1X 4 (j5q [x0,x1,x2,x3] p r 4) (by rw[j7V];omega))
    have hz0:=hD (j1X 4 [] (by simp))
    have ho:=hD (j5I 4 (j5q [x0,x1,x2,x3] p r 4))
    have R1:Hid (wr.heap[w.heap.size+1]?=some (.cells (j2b 4 []) 32 (0,0))):=r1'
    have R2:Hid (wr.heap[w.heap.size+1+1]?=some (.cells (j2b 4 (j5q [x0,x1,x2,x3] p r 4)) 32 (0,0))):=r2
    clear r0' r1' r2 hrows
    generalize hE:j2b 4 (j5q [x0,x1,x2,x3] p r 4)=cs at *
    have HE:=hD hE
    clear hE
    generalize j2b 4 []=zs at *
    go_wp2_with (first
     |((with_reducible refine wpList_load_row (o:=⟨some 39,_,_,_,_,_⟩) ?_ 32 (.tmp 5) ?_ (w.heap.size+1+1) ?_ 32 cs (0,0) _ R2.out underlying32 ?_ (j3V cs hsz.out) ?_);(rfl);(rfl);(rfl);(rfl))
     |((with_reducible refine wpList_store_row (o:=⟨none, .store 32 _ _,_,_,_,_⟩) ?_ 32 (.tmp 4) (.tmp 39) ?_ (w.heap.size+1) cs ?_ ?_ 32 zs R1.out (j3V cs hsz.out) (by rw[hz0.out,hsz.out]) ho.out ?_);(rfl);(rfl);(rfl);(rfl))
     |((with_reducible refine bodyPost_ret (v:= .agg cs) ?_ ?_ ?_);(exact results_cell_row (p:=4) (ty:=32) results123 _ _ (w.heap.size+1) 32 cs (0,0) _ rfl (setRow_heap _ _ zs cs 32 (0,0) R1.out) underlying32 rfl (j3V cs hsz.out));(rfl)))
    exact⟨by rw[HP.out,HR.out,HE.out],j0G hbl (by omega) _⟩
def W(m j:Nat):Nat:=m/2^ (64*j) % 2^64
theorem j8b(m j i:Nat):(W m j).testBit i=(decide (i<64) && m.testBit (64*j+i)):=by
 unfold W
 rw[Nat.testBit_mod_two_pow,Nat.testBit_div_two_pow,Nat.add_comm]
theorem x4f(m j:Nat):W m j<18446744073709551616:=by
 unfold W
 exact Nat.mod_lt _ (by decide)
theorem q8D(m:Nat):wl m=[(W m 0:Int),(W m 1:Int),(W m 2:Int),(W m 3:Int)]:=by
 unfold wl W
 rw[show 2^ (64*0)=1 from rfl,show 2^ (64*1)=18446744073709551616 from rfl,show 2^ (64*2)=340282366920938463463374607431768211456 from rfl,show 2^ (64*3)=6277101735386680763835789423207666416102355444464034512896 from rfl,Nat.div_one]
theorem x3Y(m j:Nat)(h:m<Big)(hj:4≤j):W m j=0:=by
 unfold W
 rw[Nat.div_eq_of_lt,Nat.zero_mod]
 rw[j76]at h
 exact Nat.lt_of_lt_of_le h (Nat.pow_le_pow_right (by omega) (by omega))
theorem q6S(m k:Nat)(hk:k<4):(wl m).getD k 0=(W m k:Int):=by
 rw[q8D]
 rcases k with _|_|_|_|k
 all_goals first|rfl|omega
theorem j5A(m k:Nat)(h:m<Big):j6o (wl m) (k:Int)=(W m k:Int):=by
 unfold j6o
 by_cases hk:k<4
 · rw[if_pos (by omega),Int.toNat_natCast,q6S m k hk]
 · rw[if_neg (by omega),x3Y m k h (by omega)]
   rfl
theorem j9P(xs:List Int)(i:Int)(h:i<0):j6o xs i=0:=by
 unfold j6o
 rw[if_neg (by omega)]
theorem x4N(a r:Nat):IntKind.u64.wrap ((a:Int)*2^r)=((a*2^r % 2^64:Nat):Int):=by
 rw[IntKind.wrap_u64,show (2:Nat)^64=18446744073709551616 from rfl]
 simp
theorem x4v(a r:Nat):(a:Int) /2^r=((a/2^r:Nat):Int):=by simp
theorem orW(a b:Nat)(ha:a<18446744073709551616)(hb:b<18446744073709551616):bits .or .u64 (a:Int) (b:Int)=((a|||b:Nat):Int):=bits_or_u64_nat a b ha hb
theorem x3B(m n k:Nat)(h:m<Big):upW (wl m) ((n:Int) /64) ((n:Int) % 64) k=(W (m*2^n) k:Int):=by
 have hr:((n:Int) % 64).toNat=n % 64:=by omega
 have hr':(64- (n:Int) % 64).toNat=64- n % 64:=by omega
 have hn:n=64*(n/64)+n % 64:=by omega
 have hr1:n % 64<64:=by omega
 have hq:(n:Int) /64=((n/64:Nat):Int):=by omega
 unfold upW
 rw[hr,hr',hq]
 generalize n/64=p at *
 generalize n % 64=r at *
 subst hn
 clear hr hr' hq
 have key: ∃a b:Nat,j6o (wl m) ((k:Int) - p)=(a:Int)∧j6o (wl m) ((k:Int) - p- 1)=(b:Int)∧a<18446744073709551616∧b<18446744073709551616∧(∀i,a.testBit i=(decide (i<64) && (decide (p≤k) && m.testBit (64*(k- p)+i))))∧(∀i,b.testBit i=(decide (i<64) && (decide (p+1≤k) && m.testBit (64*(k- p- 1)+i)))):=by
  refine⟨if p≤k then W m (k- p)else 0,if p+1≤k then W m (k- p- 1)else 0,?_,?_,?_,?_,?_,?_⟩
  · by_cases c:p≤k
    · rw[if_pos c,show (k:Int) - p=((k- p:Nat):Int)by omega,j5A m _ h]
    · rw[if_neg c,j9P _ _ (by omega)];rfl
  · by_cases c:p+1≤k
    · rw[if_pos c,show (k:Int) - p- 1=((k- p- 1:Nat):Int)by omega,j5A m _ h]
    · rw[if_neg c,j9P _ _ (by omega)];rfl
  · split
    · exact x4f _ _
    · decide
  · split
    · exact x4f _ _
    · decide
  · intro i
    by_cases c:p≤k
    · rw[if_pos c,j8b];simp[c]
    · rw[if_neg c];simp[c]
  · intro i
    by_cases c:p+1≤k
    · rw[if_pos c,j8b];simp[c]
    · rw[if_neg c];simp[c]
 obtain⟨a,b,ea,eb,la,lb,ta,tb⟩:=key
 have l1:a*2^r % 2^64<18446744073709551616:=Nat.mod_lt _ (by decide)
 have l2:b/2^ (64- r)<18446744073709551616:=Nat.lt_of_le_of_lt (Nat.div_le_self _ _) lb
 rw[ea,eb,x4N,x4v,orW _ _ l1 l2]
 congr 1
 apply Nat.eq_of_testBit_eq
 intro i
 rw[Nat.testBit_or,Nat.testBit_mod_two_pow,Nat.testBit_mul_two_pow,Nat.testBit_div_two_pow,ta,tb,j8b,Nat.testBit_mul_two_pow]
 by_cases hi:i<64
 · by_cases hir:r≤i
   · by_cases hpk:p≤k
     · have e1:64*(k- p)+(i- r)=64*k+i- (64*p+r):=by omega
       rw[e1]
       simp only[hi,hir,hpk,ge_iff_le,decide_true,Bool.true_and,show i- r<64 by omega,show 64*p+r≤64*k+i by omega,show¬(i+(64- r)<64)by omega,decide_false,Bool.false_and,Bool.or_false]
     · simp only[hi,hpk,show¬(64*p+r≤64*k+i)by omega,show¬(p+1≤k)by omega,ge_iff_le,decide_false,Bool.false_and,Bool.and_false,Bool.or_false]
   · by_cases hpk:p+1≤k
     · have e1:64*(k- p- 1)+(i+(64- r))=64*k+i- (64*p+r):=by omega
       rw[e1]
       simp only[hi,hir,hpk,ge_iff_le,decide_true,Bool.true_and,show i+(64- r)<64 by omega,show 64*p+r≤64*k+i by omega,decide_false,Bool.false_and,Bool.false_or]
     · simp only[hi,hir,hpk,show¬(64*p+r≤64*k+i)by omega,ge_iff_le,decide_false,Bool.false_and,Bool.and_false,Bool.or_false]
 · simp only[hi,decide_false,Bool.false_and,Bool.false_or,show¬(i+(64- r)<64)by omega]
theorem q8Y(m k:Nat)(hk:k<4):W (m % Big) k=W m k:=by
 apply Nat.eq_of_testBit_eq
 intro i
 rw[j8b,j8b,j76,Nat.testBit_mod_two_pow]
 by_cases hi:i<64
 · simp[hi,show 64*k+i<256 by omega]
 · simp[hi]
theorem q94(m n:Nat)(h:m<Big):upL (wl m) ((n:Int) /64) ((n:Int) % 64) 4=wl (m*2^n % Big):=by
 rw[q8D (m*2^n % Big)]
 simp only[upL,List.nil_append,List.cons_append,x3B m n _ h,q8Y _ 0 (by omega),q8Y _ 1 (by omega),q8Y _ 2 (by omega),q8Y _ 3 (by omega)]
theorem q9S(m n k:Nat)(h:m<Big):q5X (wl m) ((n:Int) /64) ((n:Int) % 64) k=(W (m/2^n) k:Int):=by
 have hr:((n:Int) % 64).toNat=n % 64:=by omega
 have hr':(64- (n:Int) % 64).toNat=64- n % 64:=by omega
 have hn:n=64*(n/64)+n % 64:=by omega
 have hr1:n % 64<64:=by omega
 have hq:(n:Int) /64=((n/64:Nat):Int):=by omega
 unfold q5X
 rw[hr,hr',hq]
 generalize n/64=p at *
 generalize n % 64=r at *
 subst hn
 clear hr hr' hq
 rw[show (k:Int)+p=((k+p:Nat):Int)by omega,show ((k+p:Nat):Int)+1=((k+p+1:Nat):Int)by omega,j5A m _ h,j5A m _ h]
 have la:=x4f m (k+p)
 have l1:W m (k+p+1)*2^ (64- r) % 2^64<18446744073709551616:=Nat.mod_lt _ (by decide)
 have l2:W m (k+p) /2^r<18446744073709551616:=Nat.lt_of_le_of_lt (Nat.div_le_self _ _) la
 rw[x4N,x4v,orW _ _ l2 l1]
 congr 1
 apply Nat.eq_of_testBit_eq
 intro i
 rw[Nat.testBit_or,Nat.testBit_mod_two_pow,Nat.testBit_mul_two_pow,Nat.testBit_div_two_pow,j8b,j8b,j8b,Nat.testBit_div_two_pow]
 by_cases hi:i<64
 · by_cases hir:i+r<64
   · have e1:64*(k+p)+(i+r)=64*k+i+(64*p+r):=by omega
     rw[e1]
     simp only[hi,hir,ge_iff_le,decide_true,Bool.true_and,show¬(64- r≤i)by omega,decide_false,Bool.false_and,Bool.or_false]
   · have e1:64*(k+p+1)+(i- (64- r))=64*k+i+(64*p+r):=by omega
     rw[e1]
     simp only[hi,hir,ge_iff_le,decide_true,Bool.true_and,show 64- r≤i by omega,show i- (64- r)<64 by omega,decide_false,Bool.false_and,Bool.false_or]
 · simp only[hi,decide_false,Bool.false_and,Bool.or_false,show¬(i+r<64)by omega]
theorem q45(m n:Nat)(h:m<Big):j5q (wl m) ((n:Int) /64) ((n:Int) % 64) 4=wl (m/2^n):=by
 rw[q8D (m/2^n)]
 simp only[j5q,List.nil_append,List.cons_append,q9S m n _ h]
theorem q97(m i:Nat)(hi:i<256):bits .and .u64 ((wl m).getD ((i:Int) /64).toNat 0/2^ ((i:Int) % 64).toNat) 1=((m/2^i % 2:Nat):Int):=by
 have e1:((i:Int) /64).toNat=i/64:=by omega
 have e2:((i:Int) % 64).toNat=i % 64:=by omega
 rw[e1,e2,q6S m _ (by omega),x4v]
 have l2:W m (i/64) /2^ (i % 64)<18446744073709551616:=Nat.lt_of_le_of_lt (Nat.div_le_self _ _) (x4f _ _)
 rw[show (1:Int)=((1:Nat):Int)from rfl,bits_and_u64_nat _ _ l2 (by decide),Nat.and_one_is_mod]
 congr 1
 have t0:=Nat.mod_two_eq_one_iff_testBit_zero (x:=W m (i/64) /2^ (i % 64))
 have t1:=Nat.mod_two_eq_one_iff_testBit_zero (x:=m/2^i)
 rw[Nat.testBit_div_two_pow,j8b,show 64*(i/64)+(0+i % 64)=i by omega]at t0
 rw[Nat.testBit_div_two_pow,Nat.zero_add]at t1
 simp only[Nat.zero_add,show i % 64<64 by omega,decide_true,Bool.true_and]at t0
 have m0:W m (i/64) /2^ (i % 64) % 2<2:=Nat.mod_lt _ (by omega)
 have m1:m/2^i % 2<2:=Nat.mod_lt _ (by omega)
 cases hb:m.testBit i
 · simp only[hb,Bool.false_eq_true,iff_false]at t0 t1;omega
 · simp only[hb,iff_true]at t0 t1;omega
def wcs(n:Nat):Array Value:=j2b 4 (wl n)
theorem j0s(n:Nat):(wcs n).size=4:=j1X 4 _ (by simp[j7d])
theorem j1v(n:Nat):(wcs n).all (·.oneCell')=true:=j5I 4 _
theorem j0w(n:Nat):(Tryz.prog.info? 32).map (·.size)=some (wcs n).size:=j3V _ (j0s n)
theorem j2U(n k:Nat)(hk:k<4):(wcs n)[k]?=some (.int .u64 (W n k)):=by
 unfold wcs
 rw[j2p 4 _ k (by simp[j7d]) hk,q6S n k hk]
theorem j9t(n:Nat):wcs n= #[.int .u64 (W n 0), .int .u64 (W n 1), .int .u64 (W n 2), .int .u64 (W n 3)]:=by
 unfold wcs
 rw[q8D]
 rfl
theorem x0G(n:Nat)(h:n<18446744073709551616):wcs n=j2b 4 [(n:Int),0,0,0]:=by
 unfold wcs
 have:=j32 n 0 0 0 h (by decide) (by decide) (by decide)
 rw[show mk4 n 0 0 0=n by unfold mk4;omega]at this
 rw[this]
 rfl
theorem j9G(m n:Nat)(w:World)(hm:m<Big)(hn:n<Big):
  Rz 165 #[.agg (wcs m), .agg (wcs n)] w (.tuple #[.agg (wcs ((m+n) % Big)), .bool (decide (m+n<Big))]):=by
 unfold Rz
 have h:=q7O m n hm hn
 refine(q9g (wl m) (wl n) w (j7d m) (j7d n) (j6U m) (j6U n)).mono ?_
 rintro e w' ⟨rfl,hb⟩
 exact⟨by rw[h.1,h.2];rfl,hb⟩
theorem q2n(m n:Nat)(w:World)(hm:m<Big)(hn:n<Big):
  Rz 177 #[.agg (wcs m), .agg (wcs n)] w (.tuple #[.agg (wcs ((m+(Big- n)) % Big)), .bool (decide (n≤m))]):=by
 unfold Rz
 have h:=q6U m n hm hn
 refine(x0I (wl m) (wl n) w (j7d m) (j7d n) (j6U m) (j6U n)).mono ?_
 rintro e w' ⟨rfl,hb⟩
 exact⟨by rw[h.1,h.2];rfl,hb⟩
theorem x1h(m n:Nat)(w:World)(hm:m<Big)(hn:n≤9223372036854775807):
  Rz 118 #[.agg (wcs m), .int .i64 n] w (.agg (wcs (m*2^n % Big))):=by
 unfold Rz
 have h:=q94 m n hm
 have e:wcs m=j2b 4 [(W m 0:Int),(W m 1:Int),(W m 2:Int),(W m 3:Int)]:=by unfold wcs;rw[q8D]
 rw[e]
 rw[q8D]at h
 refine(x26 _ _ _ _ n w (by omega) (by omega)).mono ?_
 rintro e w' ⟨rfl,hb⟩
 exact⟨by rw[h];rfl,hb⟩
theorem x0q(m n:Nat)(w:World)(hm:m<Big)(hn:n≤9223372036854775807):
  Rz 123 #[.agg (wcs m), .int .i64 n] w (.agg (wcs (m/2^n))):=by
 unfold Rz
 have h:=q45 m n hm
 have e:wcs m=j2b 4 [(W m 0:Int),(W m 1:Int),(W m 2:Int),(W m 3:Int)]:=by unfold wcs;rw[q8D]
 rw[e]
 rw[q8D]at h
 refine(q5E _ _ _ _ n w (by omega) (by omega)).mono ?_
 rintro e w' ⟨rfl,hb⟩
 exact⟨by rw[h];rfl,hb⟩
theorem q9l(m:Nat)(n:Int)(w:World)(hn:n<0):
  Rz 118 #[.agg (wcs m), .int .i64 n] w (.agg (wcs m)):=by
 unfold Rz
 have e:wcs m=j2b 4 [(W m 0:Int),(W m 1:Int),(W m 2:Int),(W m 3:Int)]:=by unfold wcs;rw[q8D]
 rw[e]
 exact x3z _ _ _ _ n w hn
def j6K(m i:Nat):Nat:=m/2^i % 2
theorem x3E(m i:Nat)(w:World)(hi:i<256):
  Calls Tryz.prog 218 #[.agg (wcs m), .int .i64 i] w fun e w'=>e= .returned (.int .u64 (j6K m i))∧w'=w.alloc (.cells (wcs m) 32):=by
 have h:=q97 m i hi
 refine(x1T (wl m) i w (j7d m) (by omega) (by omega)).mono ?_
 rintro e w' ⟨rfl,hb⟩
 exact⟨by rw[h];rfl,hb⟩
theorem x4J(n:Nat)(w:World)(h:n<18446744073709551616):
  Rz 119 #[.int .u64 n] w (.agg (wcs n)):=by
 unfold Rz
 rw[x0G n h]
 exact x3T n w
theorem q21:Tryz.prog.cellsOf 24=1:=by kernel_rfl
theorem q3R:Tryz.prog.plainKey 24=true:=by kernel_rfl
theorem j55(d:Nat)(m n:Nat)(w:World): ∀is:List Nat,(∀i∈is,i<4)→
  (Op.eqItems (d+1) 24 1 (wcs m) (wcs n) is).run Tryz.prog w= .ok (decide (∀i∈is,W m i=W n i)) w
 |[],_=>by simp[Op.eqItems]
 |i::is,h=>by
  have hi:=h i (by simp)
  have p1:=run_part_plain (P:=Tryz.prog) w q3R (j2U m i hi)
  have p2:=run_part_plain (P:=Tryz.prog) w q3R (j2U n i hi)
  have p3:=run_equalIn_int (P:=Tryz.prog) w d 24 .u64 .u64 (W m i) (W n i) underlying24
  have ih:=j55 d m n w is (fun j hj=>h j (by simp[hj]))
  simp only[Op.eqItems,Sem.run_bind,Nat.mul_one,p1,p2,p3,Result.andThen_ok]
  by_cases e:W m i=W n i
  · have e':((W m i:Int)==(W n i:Int))=true:=by simp[e]
    rw[e']
    simp only[Bool.not_true,Bool.false_eq_true,if_false,ih,List.forall_mem_cons,e,true_and]
  · have e':((W m i:Int)==(W n i:Int))=false:=by simp;omega
    rw[e']
    simp only[Bool.not_false,if_true,Sem.run_pure,List.forall_mem_cons,e,false_and,decide_false]
def eqN(m n:Nat):Bool:=decide (m=n)
theorem j6J(m n:Nat)(hm:m<Big)(hn:n<Big):(∀i∈List.range 4,W m i=W n i) ↔m=n:=by
 constructor
 · intro h
   apply x3C hm hn
   rw[q8D,q8D,h 0 (by simp),h 1 (by simp),h 2 (by simp),h 3 (by simp)]
 · rintro rfl i _
   rfl
theorem j8f(m n:Nat)(hm:m<Big)(hn:n<Big)(w:World):(Op.equal 32 (.agg (wcs m)) (.agg (wcs n))).run Tryz.prog w= .ok (eqN m n) w:=by
 unfold Op.equal
 cases hq:Tryz.prog.info? 24 with
 |none=>
  have:(Tryz.prog.info? 24).isSome=true:=by kernel_rfl
  rw[hq]at this
  cases this
 |some i=>
  have h:=run_equalIn_array (P:=Tryz.prog) w 9999 (wcs m) (wcs n) underlying32 hq
  rw[q21,j55 9998 m n w (List.range 4) (by simp)]at h
  have e:decide (∀i∈List.range 4,W m i=W n i)=eqN m n:=decide_eq_decide.2 (j6J m n hm hn)
  rw[e]at h
  exact h
theorem q3f(m n:Nat)(hm:m<Big)(hn:n<Big)(w:World):(binOp .eql 32 (.agg (wcs m)) (.agg (wcs n))).run Tryz.prog w= .ok (.bool (eqN m n)) w:=by
 simp only[binOp]
 simp[j8f m n hm hn w]
theorem j7x:0<Big:=by decide
theorem x0g(m:Nat)(hm:m<Big)(w:World):(binOp .eql 32 (.agg (wcs m)) (.agg #[.int .u64 0, .int .u64 0, .int .u64 0, .int .u64 0])).run Tryz.prog w= .ok (.bool (eqN m 0)) w:=q3f m 0 hm j7x w
def j9J(m n:Nat):Int:=if m<n then-1 else if m=n then 0 else 1
theorem x2i(m n:Nat)(w:World)(hm:m<Big)(hn:n<Big):
   Rz 122 #[.agg (wcs m), .agg (wcs n)] w (.int .i64 (j9J m n)):=by
 unfold Rz
 have HM:=hD hm
 have HN:=hD hn
 have heq:=q3f m n hm hn
 clear hm hn
 have R0:Hid (((w.alloc (.cells (wcs m) 32)).alloc (.cells (wcs n) 32)).heap[w.heap.size]?=some (.cells (wcs m) 32 (0,0))):=(Row.new w 32 _).alloc _
 have R1:Hid (((w.alloc (.cells (wcs m) 32)).alloc (.cells (wcs n) 32)).heap[w.heap.size+1]?=some (.cells (wcs n) 32 (0,0))):=Row.newAt (by simp) 32 _
 have hbl:Hid (Below w.heap.size w ((w.alloc (.cells (wcs m) 32)).alloc (.cells (wcs n) 32))):=by show Below _ _ _;go_grown
 cases hc:eqN m n
 · rw[hc]at heq
   have hne0:m≠n:=by simpa [eqN] using hc
   have hne:=hD hne0
   clear hc hne0
   go_enter func122,ntmps122
   go_wp2_with (first
     |((with_reducible refine wpList_load_row (o:=⟨some 7,_,_,_,_,_⟩) ?_ 32 (.tmp 2) ?_ w.heap.size ?_ 32 (wcs m) (0,0) _ R0.out underlying32 ?_ (j0w _) ?_);(rfl);(rfl);(rfl);(rfl))
     |((with_reducible refine wpList_load_row (o:=⟨some 8,_,_,_,_,_⟩) ?_ 32 (.tmp 3) ?_ (w.heap.size+1) ?_ 32 (wcs n) (0,0) _ R1.out underlying32 ?_ (j0w _) ?_);(rfl);(rfl);(rfl);(rfl))
     |((with_reducible refine wpList_load_row (o:=⟨some 11,_,_,_,_,_⟩) ?_ 32 (.tmp 2) ?_ w.heap.size ?_ 32 (wcs m) (0,0) _ R0.out underlying32 ?_ (j0w _) ?_);(rfl);(rfl);(rfl);(rfl))
     |((with_reducible refine wpList_load_row (o:=⟨some 12,_,_,_,_,_⟩) ?_ 32 (.tmp 3) ?_ (w.heap.size+1) ?_ 32 (wcs n) (0,0) _ R1.out underlying32 ?_ (j0w _) ?_);(rfl);(rfl);(rfl);(rfl)))
   refine(q2n m n _ HM.out HN.out).mono ?_
   rintro e w1 ⟨rfl,hb⟩
   have b1:=hD (hbl.out.trans (hb.mono hbl.out.size))
   clear hb hbl R0 R1 heq
   have hw1:Hid (w.heap.size≤w1.heap.size):=b1.out.size
   by_cases hle:n≤m
   · have hle':decide (n≤m)=true:=by simpa using hle
     have hres:Hid (j9J m n=1):=by show _=_;unfold j9J;rw[if_neg (by omega),if_neg hne.out]
     rw[hle']
     clear hle hle'
     have hsz:=j0s ((m+(Big- n)) % Big)
     have hon:=j1v ((m+(Big- n)) % Big)
     have hin:=j0w ((m+(Big- n)) % Big)
     generalize wcs ((m+(Big- n)) % Big)=cs at *
     have HSZ:=hD hsz
     have HON:=hD hon
     have HIN:=hD hin
     clear hsz hon hin
     go_wp2_with ((with_reducible refine wpList_store_row (o:=⟨none, .store 32 _ _,_,_,_,_⟩) ?_ 32 (.tmp 5) (.tmp 14) ?_ w1.heap.size cs ?_ ?_ 32 _ (heap_alloc_last w1 _) HIN.out ?_ HON.out ?_);(rfl);(rfl);(rfl);(rfl);(rw[HSZ.out];rfl);rw[World.setRow_alloc_new])
     go_ret
     exact⟨by rw[hres.out];rfl,b1.out.alloc hw1.out _⟩
   · have hle':decide (n≤m)=false:=by simpa using hle
     have hres:Hid (j9J m n= -1):=by show _=_;unfold j9J;rw[if_pos (by omega)]
     rw[hle']
     clear hle hle'
     have hsz:=j0s ((m+(Big- n)) % Big)
     have hon:=j1v ((m+(Big- n)) % Big)
     have hin:=j0w ((m+(Big- n)) % Big)
     generalize wcs ((m+(Big- n)) % Big)=cs at *
     have HSZ:=hD hsz
     have HON:=hD hon
     have HIN:=hD hin
     clear hsz hon hin
     go_wp2_with ((with_reducible refine wpList_store_row (o:=⟨none, .store 32 _ _,_,_,_,_⟩) ?_ 32 (.tmp 5) (.tmp 14) ?_ w1.heap.size cs ?_ ?_ 32 _ (heap_alloc_last w1 _) HIN.out ?_ HON.out ?_);(rfl);(rfl);(rfl);(rfl);(rw[HSZ.out];rfl);rw[World.setRow_alloc_new])
     go_ret
     exact⟨by rw[hres.out];rfl,b1.out.alloc hw1.out _⟩
 · rw[hc]at heq
   have hne0:m=n:=by simpa [eqN] using hc
   have hne:=hD hne0
   clear hc hne0
   have hres:Hid (j9J m n=0):=by show _=_;unfold j9J;rw[if_neg (by have:=hne.out;omega),if_pos hne.out]
   go_enter func122,ntmps122
   go_wp2_with (first
     |((with_reducible refine wpList_load_row (o:=⟨some 7,_,_,_,_,_⟩) ?_ 32 (.tmp 2) ?_ w.heap.size ?_ 32 (wcs m) (0,0) _ R0.out underlying32 ?_ (j0w _) ?_);(rfl);(rfl);(rfl);(rfl))
     |((with_reducible refine wpList_load_row (o:=⟨some 8,_,_,_,_,_⟩) ?_ 32 (.tmp 3) ?_ (w.heap.size+1) ?_ 32 (wcs n) (0,0) _ R1.out underlying32 ?_ (j0w _) ?_);(rfl);(rfl);(rfl);(rfl)))
   go_ret
   exact⟨by rw[hres.out];rfl,hbl.out⟩
def q3q(a i:Nat):Nat:=a/2^ (8*(31- i)) % 256
theorem q0J(a i:Nat):q3q a i<256:=Nat.mod_lt _ (by omega)
def j3J(f:Nat→Int):List Int:=(List.range 32).map f
theorem j2w(f:Nat→Int):(j3J f).length=32:=by simp[j3J]
theorem j7w(f:Nat→Int)(i:Nat)(h:i<32):(j3J f).getD i 0=f i:=by
 unfold j3J
 simp[List.getD,h]
def idF(f:Nat→Int):Array Value:=j0d 32 (j3J f)
theorem j9l(f:Nat→Int):(idF f).size=32:=j0c 32 _ (by rw[j2w];omega)
theorem x3e(f:Nat→Int):(idF f).all (·.oneCell')=true:=j0Q 32 _
theorem q2m(f:Nat→Int)(i:Nat)(h:i<32):(idF f)[i]?=some (.int .u8 (f i)):=by
 unfold idF
 rw[j1U 32 _ i (by rw[j2w];omega) h,j7w f i h]
theorem x2o(f g:Nat→Int)(j:Nat)(v:Int)(hj:j<32)(hg:g j=v)(hf: ∀i,i<32→i≠j→g i=f i):(idF f).setIfInBounds j (.int .u8 v)=idF g:=by
 unfold idF
 apply j5E
 · rw[j2w];omega
 · rw[Array.size_setIfInBounds];exact j9l f
 · intro i hi
   rw[Array.getElem?_setIfInBounds,j7w g i hi]
   by_cases e:j=i
   · subst e
     rw[if_pos rfl,if_pos (by rw[j0c 32 _ (by rw[j2w];omega)];exact hj),hg]
   · rw[if_neg e,hf i hi (fun h=>e h.symm)]
     exact q2m f i hi
theorem q86:j0d 32 []=idF (fun _=>0):=by
 unfold idF
 apply j5E
 · rw[j2w];omega
 · rw[j0c 32 [] (by simp)]
 · intro i hi
   rw[j7w _ i hi,j1U 32 [] i (by simp) hi]
   rfl
theorem q0Y(f g:Nat→Int)(h: ∀i,i<32→f i=g i):idF f=idF g:=by
 unfold idF
 congr 1
 unfold j3J
 apply List.map_congr_left
 intro i hi
 exact h i (by simpa using hi)
def j1b(a:Nat):Nat→Int:=fun i=>(q3q a i:Int)
theorem q8G(a k:Nat)(hk:k<32):W a (3- k/8) /2^ (8*(7- k % 8)) % 256=q3q a k:=by
 unfold q3q
 rw[show (256:Nat)=2^8 from rfl]
 apply Nat.eq_of_testBit_eq
 intro i
 rw[Nat.testBit_mod_two_pow,Nat.testBit_mod_two_pow,Nat.testBit_div_two_pow,Nat.testBit_div_two_pow,j8b]
 by_cases hi:i<8
 · rw[show 64*(3- k/8)+(i+8*(7- k % 8))=i+8*(31- k)by omega]
   simp only[show i+8*(7- k % 8)<64 by omega,decide_true,Bool.true_and]
 · simp only[hi,decide_false,Bool.false_and]
theorem q3T(cs:Array Value)(h:cs.size=32):(Tryz.prog.info? 26).map (·.size)=some cs.size:=by rw[h];kernel_rfl
structure Tot where
  h:List Int
  w:Nat
  n:Int
theorem Tot.ext'{a b:Tot}(h1:a.h=b.h)(h2:a.w=b.w)(h3:a.n=b.n):a=b:=by
 cases a;cases b;simp_all
instance:DecidableEq Tot:=fun a b=>decidable_of_iff (a.h=b.h∧a.w=b.w∧a.n=b.n) ⟨fun h=>Tot.ext' h.1 h.2.1 h.2.2,fun h=>by subst h;exact⟨rfl,rfl,rfl⟩⟩
def q6o(n:Int):Nat:=(IntKind.u64.wrap n).toNat
def j3D(t:Tot):List Int:=t.h++(j3J (j1b t.w)++j2O (q6o t.n) 4)
def j2t(a b:Tot):Tot:=⟨j4x (3::(j3D a++j3D b)),(a.w+b.w) % Big,IntKind.i64.wrap (a.n+b.n)⟩
def noTot:Tot:=⟨j4x [4],0,0⟩
def j5f:Tot→List Tot→List Tot
  |x,[]=>[x]
  |x,y::r=>if x.n=y.n then j5f (j2t y x) r else x::y::r
def j1A(p:List Tot)(x:Tot):List Tot:=(j5f x p.reverse).reverse
def upT:Tot→List Tot→Tot
  |x,[]=>x
  |x,y::r=>upT (j2t y x) r
def j3M(p:List Tot):Tot:=match p.reverse with
  |[]=>noTot
  |x::r=>upT x r
def j6L(l:List Tot):List Tot:=l.foldl j1A []
def q85(place:Nat→Option (Nat × Nat)):Nat→List (Nat × Value)→Prop
  |_,[]=>True
  |o,(i,v)::ps=>place i=some (o,v.cells.size)∧q85 place (o+v.cells.size) ps
def j0J(ps:List (Nat × Value)):List Value:=(ps.map fun p=>p.2.cells.toList).flatten
theorem q0G(o:Nat)(v zs:Array Value)(hz:o+v.size≤zs.size):((v.toList.zipIdx 0).foldl (fun cs(x:Value × Nat)=>cs.setIfInBounds (o+x.2) x.1) zs).toList=zs.toList.take o++v.toList++zs.toList.drop (o+v.size):=by
 obtain⟨g1,g2⟩:=Great.foldl_set o v.toList 0 zs
 apply List.ext_getElem?
 intro k
 have hA:(zs.toList.take o).length=o:=by rw[List.length_take,Array.length_toList];omega
 have hAV:(zs.toList.take o++v.toList).length=o+v.size:=by rw[lA,hA,Array.length_toList]
 rw[Array.getElem?_toList,g2 k,Array.length_toList,Nat.add_zero]
 by_cases a1:k<o
 · rw[if_neg (by omega),List.getElem?_append_left (by omega),List.getElem?_append_left (by omega),List.getElem?_take_of_lt a1,Array.getElem?_toList]
 · by_cases a2:k<o+v.size
   · rw[if_pos (by omega),List.getElem?_append_left (by omega),List.getElem?_append_right (by omega),hA]
   · rw[if_neg (by omega),List.getElem?_append_right (by omega),hAV,List.getElem?_drop,Array.getElem?_toList]
     congr 1
     omega
theorem j6V{place:Nat→Option (Nat × Nat)}: ∀(ps:List (Nat × Value))(o:Nat)(zs:Array Value),q85 place o ps→o+(j0J ps).length≤zs.size→
  ∃r,Instr.fill place zs ps=some r∧r.toList=zs.toList.take o++j0J ps++zs.toList.drop (o+(j0J ps).length)
 |[],o,zs,_,_=>⟨zs,rfl,by simp[j0J]⟩
 |(i,v)::ps,o,zs,h,hz=>by
  obtain⟨h1,h2⟩:=h
  have hl:(j0J ((i,v)::ps)).length=v.cells.size+(j0J ps).length:=by simp[j0J]
  obtain⟨g1,g2⟩:=Great.foldl_set o v.cells.toList 0 zs
  have e1:v.cells.zipIdx.foldl (fun cs(x:Value × Nat)=>cs.setIfInBounds (o+x.2) x.1) zs=(v.cells.toList.zipIdx 0).foldl (fun cs(x:Value × Nat)=>cs.setIfInBounds (o+x.2) x.1) zs:=by rw[←Array.foldl_toList,Array.toList_zipIdx]
  obtain⟨r,hr,hrl⟩:=j6V ps (o+v.cells.size) ((v.cells.toList.zipIdx 0).foldl (fun cs(x:Value × Nat)=>cs.setIfInBounds (o+x.2) x.1) zs) h2 (by rw[g1];omega)
  refine⟨r,?_,?_⟩
  · unfold Instr.fill
    simp only[h1,e1]
    split
    · rename_i h
      simp at h
      omega
    · exact hr
  · have hc:j0J ((i,v)::ps)=v.cells.toList++j0J ps:=by simp[j0J]
    rw[hrl,hc,q0G o v.cells zs (by omega)]
    have hA:(zs.toList.take o++v.cells.toList).length=o+v.cells.size:=by
      rw[lA,List.length_take,Array.length_toList,Array.length_toList]
      omega
    have hd:(zs.toList.take o++v.cells.toList++zs.toList.drop (o+v.cells.size)).drop (o+v.cells.size+(j0J ps).length)=zs.toList.drop (o+(v.cells.toList++j0J ps).length):=by
      rw[List.drop_append,List.drop_of_length_le (by omega),List.nil_append,List.drop_drop,hA]
      congr 1
      have hvl:v.cells.toList.length=v.cells.size:=Array.length_toList
      simp only[lA,hvl]
      omega
    rw[hd,List.take_left' hA]
    simp only[aA]
theorem q96{place:Nat→Option (Nat × Nat)}{ps:List (Nat × Value)}{zs:Array Value}(h:q85 place 0 ps)(hz:zs.size=(j0J ps).length):Instr.fill place zs ps=some (j0J ps).toArray:=by
 obtain⟨r,hr,hl⟩:=j6V ps 0 zs h (by omega)
 rw[hr]
 congr 1
 apply Array.ext'
 rw[hl]
 simp only[List.take_zero,List.nil_append,Nat.zero_add]
 rw[List.drop_of_length_le (by rw[Array.length_toList];omega),List.append_nil]
theorem j2m{t:TypeId}{fields:Array Field}{places:List (Nat × Nat)}{n:Nat}(hu:Tryz.prog.underlying t=some (.struct fields))(hn:(Tryz.prog.info? t).map (fun i=>i.zero.map (·.cells.size))=some (some n))
  (hp:fields.toList.mapM (fun f=>(Tryz.prog.info? f.type).map fun i=>(f.offset,i.size))=some places) {ps:List (Nat × Value)} (h:q85 (places.toArray[·]?) 0 ps) (hz:n=(j0J ps).length):Tryz.prog.built t ps=some (j0J ps).toArray:=by
 cases hq:Tryz.prog.info? t with
 |none=>rw[hq]at hn;cases hn
 | some it=>
  rw[hq]at hn
  simp only[Option.map_some,Option.some.injEq]at hn
  cases hzz:it.zero with
  |none=>rw[hzz]at hn;cases hn
  |some z=>
   rw[hzz]at hn
   simp only[Option.map_some,Option.some.injEq]at hn
   unfold Program.built
   simp only[hq,hu,hzz,hp]
   exact q96 h (by omega)
def InI(r:Int):Prop:= -9223372036854775808≤r∧r≤9223372036854775807
theorem j7P{r:Int}(h:InI r):IntKind.i64.wrap r=r:=by unfold InI at h;rw[IntKind.wrap_i64];omega
theorem j1S: ∀w,(isAgg 3).run Tryz.prog w= .ok false w:=fun w=>by simp[isAgg,run_underlying underlying3]
theorem q6J: ∀w,(isAgg 35).run Tryz.prog w= .ok false w:=fun w=>by simp[isAgg,run_underlying underlying35]
section
variable {a:Act}{dst:Option Tmp}{x y:Operand}{ty:TypeId}{pos:String}{after:Array Edge}{gd:Option (Nat × Bool)}
theorem j2M{m k r:Int}(u:World)(hr:m- k=r)(hb:InI r)(hx:a.eval x= .int .i64 m)(hy:a.eval y= .int .i64 k):
  (execOp a.eval ⟨dst, .binOp .sub 3 x y 3,ty,pos,after,gd⟩).run Tryz.prog u= .ok (.value (.int .i64 r)) u:=by
 have hw:=j7P hb
 subst hr
 unfold execOp
 simp only[hx,hy]
 go_simp
theorem x3R{m k r:Int}(u:World)(hr:m+k=r)(hb:InI r)(hx:a.eval x= .int .i64 m)(hy:a.eval y= .int .i64 k):
  (execOp a.eval ⟨dst, .binOp .add 3 x y 3,ty,pos,after,gd⟩).run Tryz.prog u= .ok (.value (.int .i64 r)) u:=by
 have hw:=j7P hb
 subst hr
 unfold execOp
 simp only[hx,hy]
 go_simp
theorem x4l{m k:Int}{b:Bool}(u:World)(hb:decide (k≤m)=b)(hx:a.eval x= .int .i64 m)(hy:a.eval y= .int .i64 k):
  (execOp a.eval ⟨dst, .binOp .geq 3 x y 3,ty,pos,after,gd⟩).run Tryz.prog u= .ok (.value (.bool b)) u:=by
 subst hb
 unfold execOp
 simp only[hx,hy]
 go_simp
theorem j1C{m k:Int}{b:Bool}(u:World)(hb:decide (m=k)=b)(hx:a.eval x= .int .i64 m)(hy:a.eval y= .int .i64 k):
  (execOp a.eval ⟨dst, .binOp .eql 3 x y 3,ty,pos,after,gd⟩).run Tryz.prog u= .ok (.value (.bool b)) u:=by
 subst hb
 unfold execOp
 simp only[hx,hy]
 go_simp
 rfl
theorem j0p{t:TypeId}{parts:Array (Nat × Operand)}{cs:Array Value}(u:World)(hb:Tryz.prog.built t (parts.toList.map fun x=>(x.1,a.eval x.2))=some cs):
  (execOp a.eval ⟨dst, .build t parts,ty,pos,after,gd⟩).run Tryz.prog u= .ok (.value (.agg cs)) u:=by
 have hb':Tryz.prog.built t (parts.map fun(i,x)=>(i,a.eval x)).toList=some cs:=by
  rw[Array.toList_map]
  exact hb
 unfold execOp
 simp only[Sem.run_bind,Sem.run_pure,run_build u t _ _ hb',Result.andThen_ok]
end
end Go.Proofs.YtojmeodoenkapaaGreatDoor
