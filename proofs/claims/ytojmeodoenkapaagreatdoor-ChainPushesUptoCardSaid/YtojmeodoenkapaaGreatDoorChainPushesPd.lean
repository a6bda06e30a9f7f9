/- Part of a proof. -/
import Derived.Test.YtojmeodoenkapaaGreatDoorChainPushesPc
import Derived.RangeFuncBox
import Derived.RangeFuncNested
import Derived.RangeFuncBound
import Derived.RangeFuncCalls
import Derived.RangeFuncLeaves
import Derived.Shelf.Abstract
import Derived.Shelf.RegionOpen
import Derived.WalkKit
import Derived.OwnWalkIn
import Derived.TacticsInMore
import Derived.LoopNIn
import Derived.LoopIn
import Derived.Lib.Strings
import Derived.Lib.Slices
import Derived.Lib.Small
import Derived.Lib.Walk
import Derived.Lib.BitFns
import Derived.Lib.MinMax
import Derived.Lib.SliceRun
import Derived.Deep.QuietTactic
import Derived.StillTailTactics
open Go.Proofs.Tryz
namespace Go.Proofs.YtojmeodoenkapaaGreatDoor
set_option maxRecDepth 20000
set_option maxHeartbeats 8000000
set_option linter.unusedVariables false
set_option linter.unusedSimpArgs false
open Go.RowKit Go.Shelf
def KpB(n₀ Bb:Nat)(W W':World):Prop:=Below n₀ W W'∧(∀o,W.heap[Bb]?=some o→W'.heap[Bb]?=some o)
theorem KpB.trans{n₀ Bb:Nat}{A B C:World}(h:KpB n₀ Bb A B)(k:KpB n₀ Bb B C):KpB n₀ Bb A C:=⟨h.1.trans k.1,fun o ho=>k.2 o (h.2 o ho)⟩
theorem KpB.put{n₀ Bb:Nat}{w:World}(hn:n₀≤w.heap.size)(hB:Bb<w.heap.size)(W:World)(l:Nat)(o o':Obj)(hl:w.heap.size≤l)(h:W.heap[l]?=some o)(h1:o.isCells=false)(h2:o.isWalk=false):KpB n₀ Bb W (W.putObj l o'):=
 ⟨belowK_b hn W l o o' hl h h1 h2,fun u hu=>(World.putObj_heap_other (by omega)).trans hu⟩
theorem j6j{W W':World}(h:Below W.heap.size W W'):KeepsOthers W W':=⟨h.size,fun k o hk _=>(h.block k (Array.getElem?_eq_some_iff.1 hk).1).trans hk⟩
theorem KeepsOthers.setRow'{w:World}{g:Nat}{cs cs':Array Value}{t:TypeId}(h:Row w g t cs):KeepsOthers w (w.setRow g cs'):=by
 refine⟨by simp[World.setRow],fun k o hk ho=>?_⟩
 by_cases e:k=g
 · subst e
   rw[show w.heap[k]?=some _ from h]at hk
   cases hk
   cases ho
 · exact(setRow_other w g k cs' e).trans hk
theorem j4S{P:Program}{ops:Array Oper}{Q:Exit→Act→World→Prop}{n l:Nat}(hno: ¬LetsOut Q): ∀(L:List Oper)(a:Act)(w:World),(∀o∈L,∀c,o.op≠ .defer c)→wpList P ops Q L a w→wpListIn (Fence.wide.inRound l) n P ops Q L a w
 |[],_,_,_,h=>h
 |o::L,a,w,hnd,h=>by
  unfold wpList at h
  unfold wpListIn
  by_cases hw:Region.wanted o (yielded ops a.tmps)=true
  · simp only[hw,if_true]at h ⊢
    rcases h with h|⟨_,h⟩
    · exact Oper.wpIn_mono (fun a' w' h3=>j4S hno L a' w' (fun o ho=>hnd o (mT ho)) h3) (x3d (hnd o (List.mem_cons_self ..)) h)
    · exact absurd h hno
  · simp only[hw]at h ⊢
    exact⟨fun _ _=>trivial,j4S hno L _ w (fun o ho=>hnd o (mT ho)) h⟩
theorem j2X{P:Program}{Q:Exit→Act→World→Prop}{n l id:Nat}{a:Act}{w:World}{L:List Oper}(hnd:q6h L.toArray=true)(hno: ¬LetsOut Q)(h:wpList P L.toArray Q L a w):(Code.region id L.toArray false).wpIn (Fence.wide.inRound l) n P Q a w:=
 wpIn_region_lit (j4S hno L a w (fun o ho=>by
  obtain⟨i,hi,e⟩:=List.getElem_of_mem ho
  exact j96 hnd (i:=i) (o:=o) (by rw[List.getElem?_toArray,gE hi,e])) h)
theorem q0T{w W W':World}{M:List (Nat × Obj)}{B:Nat}{row:Option Nat}(h:EnvX w W M)(hM: ∀x∈M,x.2.isCells=true)(hB:w.heap.size≤B)(hg:W.grownBy W' row)(hr: ∀r,row=some r→B≤r∧ ∃o:Obj,W.heap[r]?=some o∧o.isCells=false):EnvX w W' M:=by
 refine⟨h.bel.trans (j1B hg (fun g e=>Nat.le_trans hB (hr g e).1) h.bel.size),fun g o hm=>?_⟩
 have hh:=h.box g o hm
 refine(hg.block g (h.lt hm) (fun e=>?_)).trans hh
 obtain⟨_,o',ho',hc⟩:=hr g e.symm
 rw[hh]at ho'
 cases ho'
 have:=hM _ hm
 rw[this]at hc
 cases hc
theorem j4n{P:Program}{fn:Func}{p q:Tmp}{ty ty':TypeId}(h:fn.results= #[.cell p ty, .cell q ty'])(tmps:Array Value)(w:World)(g g':Nat)(t:TypeId)(cs:Array Value)(fr:Nat × Nat)(d:TypeDesc)
  (hp:tmps.getD p undef= .pointer (some ⟨g,0,none⟩)) (hq:tmps.getD q undef= .pointer (some ⟨g',0,none⟩)) (v:Value) (hv:(loadVar ty' ⟨g',0,none⟩).run P w= .ok v w) (hg:w.heap[g]?=some (.cells cs t fr))
  (hu:P.underlying ty=some d) (hd:(match d with| .struct _| .array _ _=>true|_=>false)=true) (hi:(P.info? ty).map (·.size)=some cs.size):
  (results fn tmps).run P w= .ok (.tuple #[.agg cs,v]) w:=by
 have hp':tmps[p]?.getD undef= .pointer (some ⟨g,0,none⟩):=by simpa using hp
 have hq':tmps[q]?.getD undef= .pointer (some ⟨g',0,none⟩):=by simpa using hq
 simp[results,h,hp',hq',asAddr,run_loadVar_row w g t ty cs fr d hg hu hd hi,hv]
open Go.RowKit
theorem q79(s t:TxM)(w:World)(hs:TxOk w s)(ht:TxOk w t):
  Rz 84 #[txV s,txV t] w (.bool (j4g s.r t.r)):=by
 unfold Rz
 obtain⟨b1,hb1⟩: ∃b1,decide (s.r.ins=t.r.ins)=b1:=⟨_,rfl⟩
 obtain⟨b2,hb2⟩: ∃b2,decide (s.r.outs=t.r.outs)=b2:=⟨_,rfl⟩
 have HE1:Hid (Rb w 134 #[.slice s.A1 s.n1 s.c1, .slice t.A1 t.n1 t.c1] (.bool b1)):=fun u hu=>by
  have h:=q7E s.r.ins t.r.ins s.A1 t.A1 s.n1 s.c1 t.n1 t.c1 u hs.l1 ht.l1 hs.b1.1 hs.b1.2 ht.b1.1 ht.b1.2 hs.o1 ht.o1 (hs.m1.up hu) (ht.m1.up hu)
  rwa[hb1]at h
 have HE2:Hid (Rb w 135 #[.slice s.A2 s.n2 s.c2, .slice t.A2 t.n2 t.c2] (.bool b2)):=fun u hu=>by
  have h:=q37 s.r.outs t.r.outs s.A2 t.A2 s.n2 s.c2 t.n2 t.c2 u hs.l2 ht.l2 hs.b2.1 hs.b2.2 ht.b2.1 ht.b2.2 hs.o2 ht.o2 (hs.m2.up hu) (ht.m2.up hu)
  rwa[hb2]at h
 have HS:Hid (j4g s.r t.r=(b1&& b2)):=by
  show _=_
  rw[←hb1,←hb2]
  unfold j4g
  obtain⟨⟨x1,x2⟩,_,_,_,_,_,_⟩:=s
  obtain⟨⟨y1,y2⟩,_,_,_,_,_,_⟩:=t
  simp only[TxR.mk.injEq,Bool.decide_and]
 have E1:Hid (EnvX w ((w.alloc (.cells (txA s) 77)).alloc (.cells (txA t) 77)) [(w.heap.size+1,oc (txA t) 77),(w.heap.size,oc (txA s) 77)]):=(EnvX.start w).two _ _
 clear hs ht hb1 hb2
 cases b1 with
 |false=>
  have HF:Hid (j4g s.r t.r=false):=HS.out
  clear HS HE2
  unfold txV
  go_enter func84,ntmps84
  go_upto_region 1 with (fail)
  generalize (w.alloc (.cells (txA s) 77)).alloc (.cells (txA t) 77)=W at *
  refine rgQ [0,1,2,3,4,5,6,7,8,9,10,11,12] [] E1 rfl fun hw=>?_
  refine qf rfl hw ?_
  refine ql rfl (mT mH) trivial hw ?_
  refine qf rfl hw ?_
  refine ql rfl mH trivial hw ?_
  refine qc rfl func134 (fun u hu=>HE1.out u (EnvX.bel hu)) hw ?_
  refine qw 8 hw ?_
  refine enP fun u3 EX2=>?_
  have HBE:=hD (EnvX.bel EX2.out)
  go_wp2
  go_ret
  exact⟨by rw[HF.out];first|done|rfl,HBE.out⟩
 | true=>
  cases b2 with
  |false=>
   have HF:Hid (j4g s.r t.r=false):=HS.out
   clear HS
   unfold txV
   go_enter func84,ntmps84
   go_upto_region 1 with (fail)
   generalize (w.alloc (.cells (txA s) 77)).alloc (.cells (txA t) 77)=W at *
   refine rgQ [0,1,2,3,4,5,6,7,8,9,10,11,12] [] E1 rfl fun hw=>?_
   refine qf rfl hw ?_
   refine ql rfl (mT mH) trivial hw ?_
   refine qf rfl hw ?_
   refine ql rfl mH trivial hw ?_
   refine qc rfl func134 (fun u hu=>HE1.out u (EnvX.bel hu)) hw ?_
   refine qw 2 hw ?_
   refine ql rfl (mT mH) trivial hw ?_
   refine qf rfl hw ?_
   refine ql rfl mH trivial hw ?_
   refine qc rfl func135 (fun u hu=>HE2.out u (EnvX.bel hu)) hw ?_
   refine qw 2 hw ?_
   refine enP fun u3 EX2=>?_
   have HBE:=hD (EnvX.bel EX2.out)
   go_wp2
   go_ret
   exact⟨by rw[HF.out];first|done|rfl,HBE.out⟩
  |true=>
   have HF:Hid (j4g s.r t.r=true):=HS.out
   clear HS
   unfold txV
   go_enter func84,ntmps84
   go_upto_region 1 with (fail)
   generalize (w.alloc (.cells (txA s) 77)).alloc (.cells (txA t) 77)=W at *
   refine rgQ [0,1,2,3,4,5,6,7,8,9,10,11,12] [] E1 rfl fun hw=>?_
   refine qf rfl hw ?_
   refine ql rfl (mT mH) trivial hw ?_
   refine qf rfl hw ?_
   refine ql rfl mH trivial hw ?_
   refine qc rfl func134 (fun u hu=>HE1.out u (EnvX.bel hu)) hw ?_
   refine qw 2 hw ?_
   refine ql rfl (mT mH) trivial hw ?_
   refine qf rfl hw ?_
   refine ql rfl mH trivial hw ?_
   refine qc rfl func135 (fun u hu=>HE2.out u (EnvX.bel hu)) hw ?_
   refine qw 2 hw ?_
   refine enP fun u3 EX2=>?_
   have HBE:=hD (EnvX.bel EX2.out)
   go_wp2
   go_ret
   exact⟨by rw[HF.out];first|done|rfl,HBE.out⟩
theorem q5h(x:Int)(w:World)(h0:0≤x)(h1:x<16777216):
   Calls Tryz.prog 224 #[.int .u64 x] w fun e w'=>e= .returned (.int .i64 (Lib.bitLen x.toNat))∧w'=w:=by
 have n1: ¬4294967296≤x:=by omega
 have hw:x≤18446744073709551615:=by omega
 by_cases hA:x<256
 · have n2: ¬65536≤x:=by omega
   have n3: ¬256≤x:=by omega
   have hA2:x≤255:=by omega
   have l:=Lib.bitLen_le8' x (by omega) (by omega)
   have HE:=hD (Lib.len8_of x (by omega) (by omega))
   go_enter func224,ntmps224
   go_wp2
   go_ret
   refine⟨congrArg Ending.returned (congrArg (Value.int IntKind.i64) ?_),rfl⟩
   rw[HE.out]
   unfold wrap64
   omega
 · by_cases hB:x<65536
   · have n2: ¬65536≤x:=by omega
     have n3:256≤x:=by omega
     have q0:0≤x/256:=by omega
     have q1:x/256≤255:=by omega
     have HE:=hD (Lib.len8_of (x/256) q0 q1)
     go_enter func224,ntmps224
     go_wp2
     go_ret
     refine⟨congrArg Ending.returned (congrArg (Value.int IntKind.i64) ?_),rfl⟩
     have e:(x/256).toNat=x.toNat/256:=by omega
     have l:=Lib.bitLen_le8' (x/256) (by omega) (by omega)
     have s:=Lib.bitLen_shift8 x.toNat (by omega) (by omega)
     rw[HE.out]
     rw[e]at l ⊢
     unfold wrap64
     omega
   · have n2:65536≤x:=by omega
     have q0:0≤x/65536:=by omega
     have q1:x/65536≤255:=by omega
     have HE:=hD (Lib.len8_of (x/65536) q0 q1)
     have n3: ¬256≤x/65536:=by omega
     go_enter func224,ntmps224
     go_wp2
     go_ret
     refine⟨congrArg Ending.returned (congrArg (Value.int IntKind.i64) ?_),rfl⟩
     have e:(x/65536).toNat=x.toNat/65536:=by omega
     have l:=Lib.bitLen_le8' (x/65536) (by omega) (by omega)
     have s:=Lib.bitLen_shift16 x.toNat (by omega) (by omega)
     rw[HE.out]
     rw[e]at l ⊢
     unfold wrap64
     omega
theorem q98(x:Int)(w:World)(h0:0≤x)(h1:x<16777216):
  Calls Tryz.prog 205 #[.int .u64 x] w fun e w'=>e= .returned (.int .i64 (Lib.bitLen x.toNat))∧w'=w:=by
 have HC:=hD (q5h x w h0 h1)
 go_enter func205,ntmps205
 go_wp2_with (go_at_call 224;refine HC.out.mono ?_;rintro e w' ⟨rfl,rfl⟩)
 go_ret
 exact⟨rfl,rfl⟩
theorem q4C: ∀(x:Nat),1≤x→x<2^64→ ∃e,Lib.bitLen x=e+1∧2^e≤x∧x<2*2^e:=by
 intro x
 induction x using Nat.strongRecOn with
 |_ x ih=>
  intro h1 h2
  by_cases hx:x=1
  · subst hx
    exact⟨0,by decide+kernel,by decide,by decide⟩
  · obtain⟨e,e1,e2,e3⟩:=ih (x/2) (by omega) (by omega) (by omega)
    refine⟨e+1,by rw[Lib.bitLen_half x (by omega) h2,e1];omega,?_,?_⟩
    · rw[Nat.pow_succ];omega
    · rw[Nat.pow_succ];omega
theorem x03{n:Nat}(h:2≤n)(hn:n≤1099511627776): ∃e,Lib.bitLen (n- 1)=e+1∧j2v n=2^e∧e<40:=by
 obtain⟨e,e1,e2,e3⟩:=q4C (n- 1) (by omega) (by omega)
 refine⟨e,e1,q1Q (by omega) (by omega),?_⟩
 rcases Nat.lt_or_ge e 40 with h|h
 · exact h
 · have:=Nat.pow_le_pow_right (n:=2) (by decide) h
   omega
theorem q2s:AggT 188 2:=⟨fun w=>by simp[isAgg,run_underlying underlying188],by kernel_rfl⟩
theorem x1X:AggT 189 64:=⟨fun w=>by simp[isAgg,run_underlying underlying189],by kernel_rfl⟩
theorem aggId:AggT 26 32:=⟨fun w=>by simp[isAgg,run_underlying underlying26],by kernel_rfl⟩
def ii(n:Nat):Value:= .int .i64 (n:Int)
def j2Y(f n:Nat):List Value:=[ii f,ii (f+n)]
def x4t(f n:Nat):List Value:=[ii f,ii (f+j2v n),ii (f+j2v n),ii (f+n)]
theorem q5R:(Tryz.prog.info? 188).map (·.size)=some 2:=by kernel_rfl
theorem j8B:(Tryz.prog.info? 190).map (·.size)=some 4:=by kernel_rfl
section
variable {a:Act}{dst:Option Tmp}{x y:Operand}{ty:TypeId}{pos:String}{after:Array Edge}{gd:Option (Nat × Bool)}
theorem q1b{m:Nat}(u:World)(hm:m<9223372036854775808)(hx:a.eval x= .int .i64 (m:Int)):
  (execOp a.eval ⟨dst, .convert 3 149 x,ty,pos,after,gd⟩).run Tryz.prog u= .ok (.value (.int .u64 (m:Int))) u:=by
 have hq:IntKind.u64.wrap (m:Int)=(m:Int):=by rw[IntKind.wrap_u64];omega
 unfold execOp
 simp only[hx]
 go_simp
theorem x3D{e p:Nat}(u:World)(hp:2^e=p)(he:e<62)(hx:a.eval x= .int .i64 1)(hy:a.eval y= .int .i64 (e:Int)):
  (execOp a.eval ⟨dst, .binOp .shl 3 x y 3,ty,pos,after,gd⟩).run Tryz.prog u= .ok (.value (.int .i64 (p:Int))) u:=by
 have h0: ¬(e:Int)<0:=by omega
 have h1: ¬(64:Int)≤(e:Int):=by omega
 have hp2:2^e<2^62:=Nat.pow_lt_pow_right (by decide) he
 have hc:((2:Int)^e)=(p:Int):=by rw[←hp];simp
 have hq:IntKind.i64.wrap (p:Int)=(p:Int):=j7P (by rw[hp]at hp2;unfold InI;omega)
 unfold execOp
 simp only[hx,hy]
 go_simp
end
theorem x13(f n:Nat)(w:World)(h2:2≤n)(hn:f+n≤1000000):
  Rz 174 #[.agg (j2Y f n).toArray] w (.agg (x4t f n).toArray):=by
 unfold Rz
 obtain⟨e,e1,e2,e3⟩:=x03 h2 (by omega)
 obtain⟨b1,b2,b3,-⟩:=j3A h2
 unfold j2Y x4t
 rw[e2]at b1 b2 b3 ⊢
 have HLEN:Hid (∀u,Calls Tryz.prog 205 #[.int .u64 ((n- 1:Nat):Int)] u fun en w'=>en= .returned (.int .i64 ((e+1:Nat):Int))∧Below u.heap.size u w'):=fun u=>by
  refine(q98 ((n- 1:Nat):Int) u (by omega) (by omega)).mono ?_
  rintro en w' ⟨rfl,rfl⟩
  exact⟨by rw[Int.toNat_natCast,e1],Below.refl _ _⟩
 have q1:Hid ((f+n:Nat) - (f:Int)=(n:Int)∧(n:Int) - 1=((n- 1:Nat):Int)∧((e+1:Nat):Int) - 1=(e:Int)):=⟨by omega,by omega,by omega⟩
 have q2:Hid ((f:Int)+((2^e:Nat):Int)=((f+2^e:Nat):Int)):=by show _=_;omega
 have q3:Hid (InI (n:Int)∧InI ((n- 1:Nat):Int)∧InI (e:Int)∧InI ((f+2^e:Nat):Int)∧n- 1<9223372036854775808∧e<62):=by show _∧_;unfold InI;omega
 clear e1 e2 e3 b1 b2 b3
 generalize hp:2^e=p at *
 have HP:=hD hp
 clear hp
 have E1:Hid (EnvX w ((w.alloc (.cells #[ii f,ii (f+n)] 188)).alloc (.cells #[ii 0,ii 0,ii 0,ii 0] 190)) [(w.heap.size+1,oc #[ii 0,ii 0,ii 0,ii 0] 190),(w.heap.size,oc #[ii f,ii (f+n)] 188)]):=(EnvX.start w).two _ _
 go_enter func174,ntmps174
 go_upto_region 1 with (fail)
 change Code.wp _ _ _ _ ((w.alloc (.cells #[ii f,ii (f+n)] 188)).alloc (.cells #[ii 0,ii 0,ii 0,ii 0] 190))
 generalize (w.alloc (.cells #[ii f,ii (f+n)] 188)).alloc (.cells #[ii 0,ii 0,ii 0,ii 0] 190)=W at *
 refine rgK [0,1,2,3,4,5,6,7,8,9,10,11,12,13] 0 E1 rfl fun hw=>?_
 refine qo rfl hw ?_
 refine qv (v:=ii f) rfl (fun u hu=>j0a u (j0f j1S u (j0n (k:=0) hu (mT mH) rfl)) rfl) hw ?_
 refine qo rfl hw ?_
 refine qv (v:=ii (f+n)) rfl (fun u hu=>j0a u (j0f j1S u (j0n (k:=1) hu (mT mH) rfl)) rfl) hw ?_
 refine qo rfl hw ?_
 refine qv (v:=ii f) rfl (fun u hu=>j0a u (j0f j1S u (j0n (k:=0) hu (mT mH) rfl)) rfl) hw ?_
 refine qv rfl (fun u hu=>j2M u q1.out.1 q3.out.1 rfl rfl) hw ?_
 refine qv rfl (fun u hu=>j2M u q1.out.2.1 q3.out.2.1 rfl rfl) hw ?_
 refine qv (v:= .int .u64 ((n- 1:Nat):Int)) rfl (fun u hu=>q1b u q3.out.2.2.2.2.1 rfl) hw ?_
 refine qc rfl func205 (fun u hu=>HLEN.out u) hw ?_
 refine qv rfl (fun u hu=>j2M u q1.out.2.2 q3.out.2.2.1 rfl rfl) hw ?_
 refine qv (v:=ii p) rfl (fun u hu=>x3D u HP.out q3.out.2.2.2.2.2 rfl rfl) hw ?_
 refine qv (v:=ii (f+p)) rfl (fun u hu=>x3R u q2.out q3.out.2.2.2.1 rfl rfl) hw ?_
 refine qo rfl hw ?_
 refine eH fun u3 EX2=>?_
 go_upto_region 2 with (fail)
 refine rgQ [0,1,2,3,4,5,6,7,8] [9] EX2 rfl fun hw=>?_
 refine qo rfl hw ?_
 refine qv (v:=ii f) rfl (fun u hu=>j0a u (j0f j1S u (j0n (k:=0) hu (mT mH) rfl)) rfl) hw ?_
 refine qo rfl hw ?_
 refine qv (v:= .agg #[ii f,ii (f+p)]) rfl (fun u hu=>j0p u (by kernel_rfl)) hw ?_
 refine qw 2 hw ?_
 refine qv (v:=ii (f+n)) rfl (fun u hu=>j0a u (j0f j1S u (j0n (k:=1) hu (mT mH) rfl)) rfl) hw ?_
 refine qv (v:= .agg #[ii (f+p),ii (f+n)]) rfl (fun u hu=>j0p u (by kernel_rfl)) hw ?_
 refine qv (v:= .agg #[ii f,ii (f+p),ii (f+p),ii (f+n)]) rfl (fun u hu=>j0p u (by kernel_rfl)) hw ?_
 refine j0b<|(j0z rfl (w.heap.size+1) (#[ii f,ii (f+p),ii (f+p),ii (f+n)]) rfl rfl (Nat.le_succ _) 190 (#[ii 0,ii 0,ii 0,ii 0]) mH j8B rfl (by kernel_rfl) [(w.heap.size+1,oc (#[ii f,ii (f+p),ii (f+p),ii (f+n)]) 190),(w.heap.size,oc #[ii f,ii (f+n)] 188)] (mA ⟨.inl rfl,mA ⟨.inr ⟨mT mH,by omega⟩,(fun _ h=>by cases h)⟩⟩) ?_)
 refine fun _=>enL fun u7 EX6=>?_
 have Q0:=hD (EnvX.box EX6.out _ _ mH)
 go_wp2_with ((with_reducible refine bodyPost_ret (v:= .agg #[ii f,ii (f+p),ii (f+p),ii (f+n)]) ?_ ?_ ?_);(exact results_cell_row (p:=2) (ty:=190) results174 _ _ (w.heap.size+1) 190 #[ii f,ii (f+p),ii (f+p),ii (f+n)] (0,0) _ rfl Q0.out underlying190 rfl j8B);(rfl))
 first|exact EX6.out.bel|exact⟨rfl,EX6.out.bel⟩
theorem q95(A:Option Addr)(n c:Nat)(xs:List Int)(w:World)(hl:xs.length=n)(hn:n≤1000000)(hx:Bytes w w.heap.size A xs)(hr: ∀x∈xs,0≤x∧x≤255)(ht:Tables w):
  Rz 117 #[.slice A n c] w (idv (j4q xs)):=by
 unfold Rz
 subst hl
 obtain⟨W,hW⟩: ∃W,((w.alloc (.cells (j0d 32 []) 26)).alloc (.cells #[.int .u8 0] 5)).alloc (.cells #[.slice (some ⟨w.heap.size+1,0,none⟩) 1 1, .slice A xs.length c] 100)=W:=⟨_,rfl⟩
 have r0:Row W w.heap.size 26 (j0d 32 []):=by rw[←hW];exact((Row.new w 26 _).alloc _).alloc _
 have r1:Row W (w.heap.size+1) 5 #[.int .u8 0]:=by rw[←hW];exact(Row.newAt (by simp) 5 _).alloc _
 have r2:Row W (w.heap.size+1+1) 100 #[.slice (some ⟨w.heap.size+1,0,none⟩) 1 1, .slice A xs.length c]:=by rw[←hW];exact Row.newAt (by simp) 100 _
 have hbW:Below w.heap.size w W:=by rw[←hW];exact(((Below.refl _ _).alloc (Nat.le_refl _) _).alloc (by simp) _).alloc (by simp;omega) _
 have hs:W.heap.size=w.heap.size+3:=by rw[←hW];simp
 have hb0:Bytes W W.heap.size (some ⟨w.heap.size+1,0,none⟩) [0]:=(j58 (B:=0) (n:=1) (xs:=[0]) r1 rfl (Nat.zero_le _) (by decide)).up
 have hP:Parts W W.heap.size (some ⟨w.heap.size+1+1,0,none⟩) [[0],xs]:=j7n (c:=1) (c':=c) (by omega) (by rw[r2.cell];rfl) hb0 (by intro x hx;simp at hx;omega) (by rw[r2.cell];rfl) (hx.up hbW) hr
 have HOF:=hD (j4a (some ⟨w.heap.size+1+1,0,none⟩) 2 2 [[0],xs] W rfl hP (by omega) (by simp;omega) (ht.below hbW))
 have HE:Hid ([[0],xs].flatten=0::xs):=by show _=_;simp
 have R0:=hD r0
 have HB:=hD hbW
 have hz:Hid ((j0d 32 (j4q xs)).size=32∧(j0d 32 []).size=32∧(j0d 32 (j4q xs)).all (·.oneCell')=true):=⟨j0c _ _ (by unfold j4q;rw[j1V];omega),j0c _ _ (by simp),j0Q _ _⟩
 have HW:=hD hW
 clear r0 r1 r2 hbW hs hb0 hP hx hr hW
 rw[HE.out]at HOF
 go_enter func117,ntmps117
 go_upto_region 1 with (fail)
 rw[j1n]
 have hW:=HW.out
 go_wp2_with fail
 clear hW
 refine HOF.out.mono ?_
 rintro e w2 ⟨rfl,hb2⟩
 have Q0:Hid (w2.heap[w.heap.size]?=some (.cells (j0d 32 []) 26 (0,0))):=R0.out.below hb2 R0.out.lt
 have HB2:=hD (HB.out.trans (hb2.mono HB.out.size))
 clear hb2 HOF R0 HB
 change Hid ((j0d 32 (j4x (0::xs))).size=32∧(j0d 32 []).size=32∧(j0d 32 (j4x (0::xs))).all (·.oneCell')=true)at hz
 generalize hcn:j0d 32 (j4x (0::xs))=cn at *
 have HCN:=hD hcn
 clear hcn
 generalize j0d 32 []=zs at *
 go_wp2_with (first
  |((with_reducible refine wpList_store_row (o:=⟨none, .store 26 _ _,_,_,_,_⟩) ?_ 26 (.tmp 2) (.tmp 6) ?_ w.heap.size cn ?_ ?_ 26 zs Q0.out (j08 cn hz.out.1) (by rw[hz.out.1,hz.out.2.1]) hz.out.2.2 ?_);(rfl);(rfl);(rfl);(rfl))
  |((with_reducible refine bodyPost_ret (v:= .agg cn) ?_ ?_ ?_);(exact results_cell_row (p:=2) (ty:=26) results117 _ _ w.heap.size 26 cn (0,0) _ rfl (setRow_heap _ _ zs cn 26 (0,0) Q0.out) underlying26 rfl (j08 cn hz.out.1));(rfl)))
 exact⟨by unfold idv j4q;rw[HCN.out],j0G HB2.out (Nat.le_refl _) _⟩
theorem j7X{a b:List Int}(ha:a.length=32)(hb:b.length=32):(j0d 32 a++j0d 32 b)=(a.map u8v++b.map u8v).toArray:=by
 rw[j9Y ha,j9Y hb]
 simp
theorem q1q{w0 u:World}{M:j0e}{g:Nat}{t:TypeId}{a b:List Int}(hu:EnvC w0 M u)(hm:(g,oc (j0d 32 a++j0d 32 b) t)∈M)(ha:a.length=32)(hb:b.length=32):
  (loadVar 189 ⟨g,0,none⟩).run Tryz.prog u= .ok (.agg (j0d 32 a++j0d 32 b)) u:=by
 have h:=j2s x1X (k:=0) hu hm (a.map u8v++b.map u8v) (by simp[ha,hb]) (by
  rw[j7X ha hb,List.drop_zero,tL (by simp[ha,hb])])
 rw[j7X ha hb]
 exact h
theorem q6q:(Tryz.prog.info? 189).map (fun i=>i.zero.map (·.cells.size))=some (some 64):=by kernel_rfl
theorem q7t{A B:Array Value}(hA:A.size=32)(hB:B.size=32):Tryz.prog.built 189 [(0, .agg A),(1, .agg B)]=some (A++B):=by
 have hz:=q6q
 cases hq:Tryz.prog.info? 189 with
 |none=>rw[hq]at hz;cases hz
 | some it=>
  rw[hq]at hz
  simp only[Option.map_some,Option.some.injEq]at hz
  cases hzz:it.zero with
  |none=>rw[hzz]at hz;cases hz
  | some z=>
   rw[hzz]at hz
   simp only[Option.map_some,Option.some.injEq]at hz
   have hi:=x1O
   cases hq2:Tryz.prog.info? 26 with
   |none=>rw[hq2]at hi;cases hi
   |some ie=>
    rw[hq2]at hi
    simp only[Option.map_some,Option.some.injEq,Prod.mk.injEq]at hi
    unfold Program.built
    simp only[hq,underlying189,hzz,hq2,hi.1]
    exact x0s A B z.cells hA hB rfl rfl (by omega)
section
variable {a:Act}{dst:Option Tmp}{x:Operand}{ty:TypeId}{pos:String}{after:Array Edge}{gd:Option (Nat × Bool)}
end
def q5M(a b:List Int):Nat→List Int
  |0=>[1]
  |1=>1::a
  |_=>1::(a++b)
def x3t(a b:List Int):Nat→List Int
  |0=>a
  |_=>b
theorem x0O(a b:List Int){k:Nat}(h:k<2):q5M a b (k+1)=q5M a b k++x3t a b k:=by
 match k,h with
 |0,_=>simp[q5M,x3t]
 |1,_=>simp[q5M,x3t]
theorem q5G{a b:List Int}(ha:a.length=32)(hb:b.length=32){k:Nat}(h:k≤2):(q5M a b k).length=1+k*32:=by
 match k,h with
 |0,_=>simp[q5M]
 |1,_=>simp[q5M,ha]
 |2,_=>simp[q5M,ha,hb]
theorem x2T{a b:List Int}(ha:a.length=32)(hb:b.length=32){k:Nat}(h:k<2):(j0d 32 a++j0d 32 b).extract (k*32) (k*32+32)=j0d 32 (x3t a b k):=by
 rw[j7X ha hb]
 match k,h with
 |0,_=>
  show _=j0d 32 a
  rw[j9Y ha]
  simp[ha]
 |1,_=>
  show _=j0d 32 b
  rw[j9Y hb]
  simp[ha,hb]
  exact tL (by simp[hb])
theorem q9m(a b:List Int)(w:World)(ha:a.length=32)(hb:b.length=32):
  Calls Tryz.prog 175 #[.agg (j0d 32 a++j0d 32 b)] w fun e w'=>(∃v,e= .returned v∧w'.ownsRow w.heap.size 5 1 v 65 ((j9R a b).map u8v))∧Below w.heap.size w w':=by
 have HA:=hD (And.intro ha (Nat.le_refl 0))
 have HB:=hD (And.intro hb (Nat.le_refl 0))
 clear ha hb
 have E1:Hid (EnvX w ((w.alloc (.cells (j0d 32 a++j0d 32 b) 189)).alloc (.cells #[.int .u8 1] 5)) [(w.heap.size+1,oc #[.int .u8 1] 5),(w.heap.size,oc (j0d 32 a++j0d 32 b) 189)]):=(EnvX.start w).two _ _
 go_enter func175,ntmps175
 go_upto_region 2 with (fail)
 generalize (w.alloc (.cells (j0d 32 a++j0d 32 b) 189)).alloc (.cells #[.int .u8 1] 5)=W at *
 refine rgQ [0,1] [] E1 rfl fun hw=>?_
 refine qv (v:= .agg (j0d 32 a++j0d 32 b)) rfl (fun u hu=>j0a u (q1q hu (mT mH) HA.out.1 HB.out.1) rfl) hw ?_
 refine qo rfl hw ?_
 refine enP fun u3 EX2=>?_
 have HINV:Hid (∃N,FreshR 5 1 (1+0*32) ((q5M a b 0).map u8v) (.slice (some ⟨w.heap.size+1,0,none⟩) 1 1) N∧j01 w N []∧EnvX w u3 N):=by
  refine⟨_, .inl ⟨w.heap.size+1,1,#[.int .u8 1],rfl,rfl,by omega,by decide,rfl,rfl⟩,?_,EnvX.sub EX2.out (fun y hy=>?_)⟩
  · intro y hy
    cases mS.1 hy
    exact⟨Nat.le_succ _,fun z hz=>by cases hz⟩
  · cases mS.1 hy
    exact mH
 clear EX2
 go_upto_region 3 with (fail)
 go_loopw [3,8] (fun v i u=> ∃k:Nat,k≤2∧i= .int .i64 k∧Hid (∃N,FreshR 5 1 (1+k*32) ((q5M a b k).map u8v) v N∧j01 w N []∧EnvX w u N)) (fun _ i _=>2- (intOf i).toNat)
 case atStart=>exact⟨0,by omega,rfl,HINV⟩
 case round=>
  obtain⟨k,hk,rfl,hinv⟩:=hrel
  obtain⟨N,hF,hN,hE⟩:=hinv.out
  clear hinv HINV
  by_cases hlt:k<2
  · have hk2:(k:Int)<2:=by omega
    have EK:Hid (EnvX w wr (N++[])):=by show EnvX _ _ _;rw[List.append_nil];exact hE
    have HF:=hD hF
    have HN:=hD hN
    have HK:=hD hlt
    have HIX:=hD (x2T HA.out.1 HB.out.1 hlt)
    have HX:Hid ((x3t a b k).length=32):=by
     match k,hlt with
     |0,_=>exact HA.out.1
     |1,_=>exact HB.out.1
    have HPS:=hD (x0O a b hlt)
    have HPL:=hD (q5G HA.out.1 HB.out.1 (Nat.le_of_lt hlt))
    have HKS:Hid (1+k*32+32≤2000000):=by show _≤_;omega
    clear hE hF hN
    generalize x3t a b k=x at *
    go_upto_region 4 with (fail)
    refine rgQ [0] [1,2] EK rfl fun hw=>?_
    refine qv (v:=idv x) rfl (fun u hu=>q24 underlying189 aggId HK.out HIX.out u rfl rfl) hw ?_
    refine j0b<|(j0k (R:=fun x N=> ∃g,x= .pointer (some ⟨g,0,none⟩)∧N=[(g,oc (j0d 32 []) 26)]) (M0:=(N++[])) rfl rfl (fun _ h=>h) (fun u hu=>j4k (q0m _) u) ?_)
    rintro x N ⟨g9,rfl,rfl⟩ hf he5;intro K' hK';go_big_quiet_op;go_big_quiet_on
    have HG9:=hD hf
    clear hf
    change j1E _ _ _ _ _ _ ((g9,oc (j0d 32 []) 26)::(N++[]))
    refine(j0z rfl (g9) (j0d 32 x) rfl rfl (HG9.out _ (mS.2 rfl)).1 26 ((j0d 32 [])) mH (j08 _ (j0c _ _ (by rw[HX.out];omega))) ((j0c _ _ (by simp)).trans (j0c _ _ (by rw[HX.out];omega)).symm) (j0Q _ _) ((g9,oc (j0d 32 x) 26)::(N++[])) (fun y hy=>(List.mem_cons.1 hy).imp id (fun h=>⟨mT (by simpa using h),(HG9.out _ (mS.2 rfl)).2 _ (by simpa using h)⟩)) ?_)
    refine fun _=>enL fun u8 EX7=>?_
    go_upto_region 5 with (fail)
    refine rgQ [0,1] [2,3] EX7 rfl fun hw=>?_
    refine qo rfl hw ?_
    refine qv (v:= .slice (some ⟨g9,0,none⟩) 32 32) rfl (fun u hu=>j1R u rfl) hw ?_
    refine j0b<|(j03 (gd:=none) (R:=j1N w 5 1 (1+k*32+32) ((q5M a b k).map u8v++x.map u8v) []) rfl rfl rfl rfl (fun u hu=>q7z elB (m:=32) (c:=32) [] hu (by rw[lM,HPL.out];omega) (by rw[lM,HX.out]) (fun z hz=>by obtain⟨q,_,rfl⟩:=List.mem_map.1 hz;rfl) HF.out (fun y hy=>⟨mT (mL hy),(HN.out y hy).1⟩) (by rw[←j9Y HX.out];exact mH) (fun z hz=>by cases hz) HKS.out rfl rfl) ?_)
    rintro x M' ⟨N2,rfl,hF2,hf2⟩ he10;intro K' hK';go_big_quiet_op;go_big_quiet_on
    have HF2:=hD (And.intro hF2 hf2)
    clear hF2 hf2
    refine phE [3] [] he10 fun hw=>?_
    refine qo rfl hw ?_
    refine enP fun u13 EX12=>?_
    go_wp2
    go_roundw
    case rel=>
     refine⟨k+1,by omega,by go_num,N2,?_,HF2.out.2,by simpa using EX12.out⟩
     have h:=HF2.out.1
     rw[HPS.out,List.map_append,show 1+(k+1)*32=1+k*32+32 by omega]
     exact h
    case measure=>simp[intOf];omega
  · obtain rfl:k=2:=by omega
    have HO:=hD (And.intro (hF.own (B:=w.heap.size) (by rw[lM,q5G HA.out.1 HB.out.1 (Nat.le_refl _)]) (fun y hy=>⟨(hN y hy).1,EnvX.box hE _ _ hy⟩)) (EnvX.bel hE))
    clear hF hN hE
    go_wp2
    go_ret
    exact⟨⟨_,rfl,HO.out.1⟩,HO.out.2⟩
theorem q16{w0 u:World}{M:j0e}{g cap:Nat}{cur:Array Value}{xs:List Int}(hu:EnvC w0 M u)(hm:(g,oc cur 5)∈M)(hl:xs.length=65)(h:65≤cap∧cap≤maxLen∧cur.size=cap*1∧cur.toList.take (65*1)=xs.map u8v):Bytes u u.heap.size (some ⟨g,0,none⟩) xs:=by
 have:OwnB u 0 (.slice (some ⟨g,0,none⟩) xs.length cap) xs:=⟨by simp, .inr ⟨g,cap,cur,rfl,Nat.zero_le _,EnvX.box hu g _ hm,by rw[hl];exact h.1,h.2.1,h.2.2.1,by rw[hl];exact h.2.2.2⟩⟩
 exact this.bytes.2
theorem x0B(a b:List Int)(w:World)(ha:a.length=32∧ ∀x∈a,0≤x∧x≤255)(hb:b.length=32∧ ∀x∈b,0≤x∧x≤255)(ht:Tables w):
  Rz 116 #[idv a,idv b] w (idv (j7p a b)):=by
 unfold Rz
 have HA:=hD ha
 have HB:=hD hb
 have HAB:Hid ((j0d 32 a).size=32∧(j0d 32 b).size=32):=⟨j0c _ _ (by omega),j0c _ _ (by omega)⟩
 have HTX:=hD (fun u=>q9m a b u ha.1 hb.1)
 have HTL:Hid ((j9R a b).length=65):=by show _=_;unfold j9R;simp[ha.1,hb.1]
 have HSUM:Hid (∀u g cap,Bytes u u.heap.size (some ⟨g,0,none⟩) (j9R a b)→EnvX w u []→Calls Tryz.prog 110 #[.slice (some ⟨g,0,none⟩) 65 cap] u fun e w'=>e= .returned (idv (j7p a b))∧Below u.heap.size u w'):=fun u g cap h1 h2=>
  q7J (some ⟨g,0,none⟩) 65 cap (j9R a b) u HTL.out (by omega) h1 (q41 ha.2 hb.2) (ht.below (EnvX.bel h2))
 have HLE:Hid (w.heap.size≤w.heap.size+1+1):=by show _≤_;omega
 have HNL:Hid ((j7p a b).length≤32):=by show _≤_;rw[(q5D _ _).1];omega
 have E1:Hid (EnvX w (((w.alloc (.cells (j0d 32 a) 26)).alloc (.cells (j0d 32 b) 26)).alloc (.cells (j0d 32 []) 26)) [(w.heap.size+1+1,oc (j0d 32 []) 26),(w.heap.size+1,oc (j0d 32 b) 26),(w.heap.size,oc (j0d 32 a) 26)]):=by
  have h:=((EnvX.start w).two (oc (j0d 32 a) 26) (oc (j0d 32 b) 26)).new (oc (j0d 32 []) 26)
  have hs:((w.alloc (oc (j0d 32 a) 26)).alloc (oc (j0d 32 b) 26)).heap.size=w.heap.size+1+1:=by simp
  rw[hs]at h
  exact h
 clear ha hb ht
 unfold idv
 go_enter func116,ntmps116
 go_upto_region 1 with (fail)
 rw[j1n]
 generalize ((w.alloc (.cells (j0d 32 a) 26)).alloc (.cells (j0d 32 b) 26)).alloc (.cells (j0d 32 []) 26)=W at *
 refine rgQ [0,1,2] [3,4,5] E1 rfl fun hw=>?_
 refine qv rfl (fun u hu=>j1f u (j21 hu (mT (mT mH)) HA.out.1) rfl) hw ?_
 refine qv rfl (fun u hu=>j1f u (j21 hu (mT mH) HB.out.1) rfl) hw ?_
 refine qv (v:= .agg (j0d 32 a++j0d 32 b)) rfl (fun u hu=>j0p u (q7t HAB.out.1 HAB.out.2)) hw ?_
 refine j0b<|qr rfl func175 (fun u hu=>j0i (HTX.out u)) ?_
 rintro x N hF hf he2
 obtain⟨g,cap,cur,rfl,rfl,hcur⟩|⟨_,_,h0,_⟩:=hF
 case inr=>cases h0
 have HCUR:=hD hcur
 clear hcur
 clear hf
 refine phE [4] [5] he2 fun hw=>?_
 refine qc rfl func110 (fun u hu=>HSUM.out u _ _ (q16 hu mH HTL.out HCUR.out) (nl hu)) hw ?_
 refine j0b<|(so rfl HLE.out (mT mH) (j08 _ (j0c _ _ HNL.out)) ((j0c _ _ (by simp)).trans (j0c _ _ HNL.out).symm) (j0Q _ _) ?_)
 refine fun _=>enL fun u6 EX5=>?_
 have hsz:Hid ((j0d 32 (j7p a b)).size=32):=j0c _ _ HNL.out
 have Q0:=hD (EnvX.box EX5.out _ _ mH)
 have HBEL:=hD EX5.out.bel
 clear EX5
 generalize hcn:j0d 32 (j7p a b)=cn at *
 have HCN:=hD hcn
 clear hcn
 go_wp2_with ((with_reducible refine bodyPost_ret (v:= .agg cn) ?_ ?_ ?_);(exact results_cell_row (p:=4) (ty:=26) results116 _ _ (w.heap.size+1+1) 26 cn (0,0) _ rfl Q0.out underlying26 rfl (j08 cn hsz.out));(rfl))
 exact⟨by rw[HCN.out],HBEL.out⟩
def ptr(g:Nat):Value:= .pointer (some ⟨g,0,none⟩)
def ndV:Value:= .func (.func 116) #[] #[]
def r1V(bl bw bn:Nat):Value:= .func (.func 173) #[] #[ptr bl,ptr bw,ptr bn]
theorem x1q: ∀w,(isAgg 186).run Tryz.prog w= .ok false w:=fun w=>by simp[isAgg,run_underlying underlying186]
theorem x1P: ∀w,(isAgg 185).run Tryz.prog w= .ok false w:=fun w=>by simp[isAgg,run_underlying underlying185]
def bxL(A:Option Addr)(m c:Nat):Obj:= .cells #[.slice A m c] 35 (0,0)
def bxR(bl bw bn:Nat):Obj:= .cells #[r1V bl bw bn] 186 (0,0)
def bxN:Obj:= .cells #[ndV] 185 (0,0)
def j8c(f n k:Nat):Nat:=if k=0 then f else f+j2v n
def j6O(n k:Nat):Nat:=if k=0 then j2v n else n- j2v n
def j2A(L:List (List Int))(f n k:Nat):List Int:=j1K ((L.drop (j8c f n k)).take (j6O n k))
theorem q9E{f n k:Nat}(h2:2≤n)(hk:k<2):(x4t f n).toArray.extract (k*2) (k*2+2)=(j2Y (j8c f n k) (j6O n k)).toArray:=by
 obtain⟨b1,b2,b3,-⟩:=j3A h2
 match k,hk with
 |0,_=>rfl
 |1,_=>
  show _=(j2Y (f+j2v n) (n- j2v n)).toArray
  have e:f+j2v n+(n- j2v n)=f+n:=by omega
  unfold j2Y x4t
  rw[e]
  rfl
theorem q7R{f n k m:Nat}(h2:2≤n)(hk:k<2)(hm:f+n≤m):1≤j6O n k∧j6O n k<n∧j8c f n k+j6O n k≤m:=by
 obtain⟨b1,b2,b3,-⟩:=j3A h2
 match k,hk with
 |0,_=>exact⟨b1,b2,by show f+j2v n≤m;omega⟩
 |1,_=>exact⟨by show 1≤n- j2v n;omega,by show n- j2v n<n;omega,by show f+j2v n+(n- j2v n)≤m;omega⟩
theorem q8x{L:List (List Int)}{f n:Nat}(h2:2≤n)(hm:f+n≤L.length):j7p (j2A L f n 0) (j2A L f n 1)=j1K ((L.drop f).take n):=by
 obtain⟨b1,b2,b3,-⟩:=j3A h2
 have hl:((L.drop f).take n).length=n:=by rw[List.length_take,List.length_drop];omega
 have hc:=q3t (l:=(L.drop f).take n) (by omega)
 rw[hl]at hc
 rw[hc]
 show j7p (j1K ((L.drop f).take (j2v n))) (j1K ((L.drop (f+j2v n)).take (n- j2v n)))=_
 rw[List.take_take,Nat.min_eq_left (by omega),List.drop_take,List.drop_drop]
def j6s(r0 r1:List Int):Nat→Array Value
  |0=>j0d 32 []++j0d 32 []
  |1=>j0d 32 r0++j0d 32 []
  |_=>j0d 32 r0++j0d 32 r1
def x2Y(r0 r1:List Int)(k:Nat):List Int:=if k=0 then r0 else r1
theorem x2I:(j0d 32 []).toList.length=32:=by rw[Array.length_toList];exact j0c _ _ (by simp)
theorem j4M{r:List Int}(h:r.length=32):(j0d 32 r).toList.length=32:=by rw[Array.length_toList];exact j0c _ _ (by omega)
theorem q67{r0 r1:List Int}(h0:r0.length=32)(h1:r1.length=32){k:Nat}(hk:k<2):
  (j6s r0 r1 k).toList.take (k*32)++(j0d 32 (x2Y r0 r1 k)).toList++(j6s r0 r1 k).toList.drop (k*32+(j0d 32 (x2Y r0 r1 k)).size)=(j6s r0 r1 (k+1)).toList:=by
 have l0:=j4M h0
 have l1:=j4M h1
 have lz:=x2I
 match k,hk with
 |0,_=>
  show (j0d 32 []++j0d 32 []).toList.take 0++(j0d 32 r0).toList++(j0d 32 []++j0d 32 []).toList.drop (0*32+(j0d 32 r0).size)=(j0d 32 r0++j0d 32 []).toList
  rw[j0c 32 r0 (by omega),Array.toList_append,Array.toList_append,List.drop_append_of_le_length (by omega),List.drop_of_length_le (by omega)]
  rfl
 |1,_=>
  show (j0d 32 r0++j0d 32 []).toList.take 32++(j0d 32 r1).toList++(j0d 32 r0++j0d 32 []).toList.drop (1*32+(j0d 32 r1).size)=(j0d 32 r0++j0d 32 r1).toList
  rw[j0c 32 r1 (by omega),Array.toList_append,Array.toList_append,List.take_append_of_le_length (by omega),tL (by omega),List.drop_of_length_le (by rw[lA];omega),List.append_nil]
theorem q5B{r0 r1:List Int}(h0:r0.length=32)(h1:r1.length=32)(k:Nat):(j6s r0 r1 k).size=64:=by
 have z:=j0c 32 [] (by simp)
 have s0:=j0c 32 r0 (by omega)
 have s1:=j0c 32 r1 (by omega)
 match k with
 |0=>simp only[j6s,Array.size_append,z]
 |1=>simp only[j6s,Array.size_append,z,s0]
 |_+2=>simp only[j6s,Array.size_append,s0,s1]
theorem q3z{w0 u:World}{M:j0e}{g k:Nat}{t:TypeId}{cs:Array Value}{r:List Int}(hr:r.length=32)(hu:EnvC w0 M u)(hm:(g,oc cs t)∈M)(h:(cs.toList.drop k).take 32=(j0d 32 r).toList):
  (loadVar 26 ⟨g,k,none⟩).run Tryz.prog u= .ok (idv r) u:=by
 have:=j2s aggId hu hm (j0d 32 r).toList (j4M hr) h
 rw[Array.toArray_toList]at this
 exact this
theorem x2Z{A B:Array Value}(hA:A.toList.length=32)(hB:B.toList.length=32):((A++B).toList.drop (0+0*32)).take 32=A.toList∧((A++B).toList.drop (0+1*32)).take 32=B.toList:=by
 rw[Array.toList_append]
 refine⟨?_,?_⟩
 · rw[List.drop_zero,List.take_append_of_le_length (by omega),tL (by omega)]
 · rw[show 0+1*32=A.toList.length by omega,List.drop_left,tL (by omega)]
theorem q9b{dst:Option Tmp}{ty:TypeId}{pos:String}{after:Array Edge}{gd:Option (Nat × Bool)}(a:Act):j3r Tryz.prog ⟨dst, .alloc 189,ty,pos,after,gd⟩ a (.cells (j0d 32 []++j0d 32 []) 189 (0,0)):=
 q5V (z:= .agg (j0d 32 []++j0d 32 [])) (n:=64) (by kernel_rfl) a
theorem q9L{dst:Option Tmp}{ty:TypeId}{pos:String}{after:Array Edge}{gd:Option (Nat × Bool)}(a:Act):j3r Tryz.prog ⟨dst, .alloc 188,ty,pos,after,gd⟩ a (.cells #[ii 0,ii 0] 188 (0,0)):=
 q5V (z:= .agg #[ii 0,ii 0]) (n:=2) (by kernel_rfl) a
theorem q8c(A:Option Addr)(m c:Nat)(L:List (List Int))(bl bw bn:Nat)(hL:isIds L)(hm:L.length=m)(hm6:m≤1000000): ∀(n f:Nat)(w:World),1≤n→f+n≤m→
  EnvX w w [(bl,bxL A m c),(bw,bxR bl bw bn),(bn,bxN)]→IdsIn w w.heap.size A L→Tables w→
  Calls Tryz.prog 173 #[.agg (j2Y f n).toArray,ptr bl,ptr bw,ptr bn] w fun e w'=>e= .returned (idv (j1K ((L.drop f).take n)))∧Below w.heap.size w w':=by
 intro n
 induction n using Nat.strongRecOn with
 | _ n ih=>
  intro f w h1 hfm hE hA ht
  have E1:Hid (EnvX w ((w.alloc (.cells (j2Y f n).toArray 188)).alloc (.cells (j0d 32 []) 26)) [(w.heap.size+1,oc (j0d 32 []) 26),(w.heap.size,oc (j2Y f n).toArray 188),(bl,bxL A m c),(bw,bxR bl bw bn),(bn,bxN)]):=hE.two _ _
  have q1:Hid (((f+n:Nat):Int) - (f:Int)=(n:Int)∧InI (n:Int)):=by show _∧_;unfold InI;omega
  have HLE:Hid (w.heap.size≤w.heap.size+1):=Nat.le_succ _
  unfold ptr
  by_cases hn1:n=1
  · have HB:Hid (decide ((n:Int)=1)=true):=decide_eq_true (by omega)
    have hlt:f<L.length:=by omega
    obtain⟨ad,rfl,hld⟩:=hA.load hL (i:=f) hlt
    have HLD:Hid (∀u,EnvX w u []→(loadVar 26 (ad.add (f*32))).run Tryz.prog u= .ok (idv (L.getD f [])) u):=fun u hu=>by
     obtain⟨ad2,e2,h2⟩:=(hA.up (EnvX.bel hu)).load hL (i:=f) hlt
     cases e2
     exact h2
    have HR:Hid (j1K ((L.drop f).take n)=L.getD f []):=by
     show _=_
     subst hn1
     rw[gD,gE hlt,List.drop_eq_getElem_cons hlt,List.take_succ_cons,List.take_zero,x0w]
     rfl
    have HX:=hD (hL.get hlt).1
    have HFM:Hid (f<m):=by show _<_;omega
    rw[HR.out]
    generalize L.getD f []=x at *
    clear ih hE hA ht hld HR hn1
    go_enter func173,ntmps173
    go_upto_region 1 with (fail)
    rw[j1n]
    generalize (w.alloc (.cells (j2Y f n).toArray 188)).alloc (.cells (j0d 32 []) 26)=W at *
    refine rgQ [0,1,2,3,4,5] [] E1 rfl fun hw=>?_
    refine qo rfl hw ?_
    refine qv (v:=ii (f+n)) rfl (fun u hu=>j0a u (j0f j1S u (j0n (k:=1) hu (mT mH) rfl)) rfl) hw ?_
    refine qo rfl hw ?_
    refine qv (v:=ii f) rfl (fun u hu=>j0a u (j0f j1S u (j0n (k:=0) hu (mT mH) rfl)) rfl) hw ?_
    refine qv rfl (fun u hu=>j2M u q1.out.1 q1.out.2 rfl rfl) hw ?_
    refine qv rfl (fun u hu=>j1C u HB.out rfl rfl) hw ?_
    refine enP fun u3 EX2=>?_
    go_upto_region 2 with (fail)
    refine rgQ [0,1,2,3,4] [5] EX2 rfl fun hw=>?_
    refine qv (v:= .slice (some ad) m c) rfl (fun u hu=>j0a u (j0f q6J u (j0n (k:=0) hu (mT (mT mH)) rfl)) rfl) hw ?_
    refine qo rfl hw ?_
    refine qv (v:=ii f) rfl (fun u hu=>j0a u (j0f j1S u (j0n (k:=0) hu (mT mH) rfl)) rfl) hw ?_
    refine qv rfl (fun u hu=>j0h underlying35 aggId.size HFM.out u rfl rfl) hw ?_
    refine qv rfl (fun u hu=>j0a u (HLD.out u (nl hu)) rfl) hw ?_
    refine j0b<|(so rfl HLE.out mH (j08 _ (j0c _ _ (by rw[HX.out];omega))) ((j0c _ _ (by simp)).trans (j0c _ _ (by rw[HX.out];omega)).symm) (j0Q _ _) ?_)
    refine fun _=>enL fun u7 EX6=>?_
    have hsz:Hid ((j0d 32 x).size=32):=j0c _ _ (by rw[HX.out];omega)
    have Q0:=hD (EnvX.box EX6.out _ _ mH)
    have HBEL:=hD EX6.out.bel
    clear EX6
    unfold idv
    generalize hcn:j0d 32 x=cn at *
    have HCN:=hD hcn
    clear hcn
    go_wp2_with ((with_reducible refine bodyPost_ret (v:= .agg cn) ?_ ?_ ?_);(exact results_cell_row (p:=5) (ty:=26) results173 _ _ (w.heap.size+1) 26 cn (0,0) _ rfl Q0.out underlying26 rfl (j08 cn hsz.out));(rfl))
    first|exact HBEL.out|exact⟨rfl,HBEL.out⟩|exact⟨by unfold idv;rw[HCN.out],HBEL.out⟩
  · have h2:2≤n:=by omega
    have HB:Hid (decide ((n:Int)=1)=false):=decide_eq_false (by omega)
    have HCUT:=hD (fun u=>x13 f n u h2 (by omega))
    have HSC:=hD (fun k(hk:k<2)=>q9E (f:=f) h2 hk)
    have HSI:=hD (fun k(hk:k<2)=>q7R (f:=f) (m:=m) h2 hk hfm)
    have HRID:Hid (∀k,(j2A L f n k).length=32∧ ∀x∈j2A L f n k,0≤x∧x≤255):=fun k=>j3t ((hL.drop _).take _)
    have HCALL:Hid (∀k,k<2→ ∀u,EnvX w u [(bl,bxL A m c),(bw,bxR bl bw bn),(bn,bxN)]→Calls Tryz.prog 173 #[.agg (j2Y (j8c f n k) (j6O n k)).toArray,ptr bl,ptr bw,ptr bn] u fun e w'=>e= .returned (idv (j2A L f n k))∧Below u.heap.size u w'):=fun k hk u hu=>by
     obtain⟨s1,s2,s3⟩:=q7R (f:=f) (m:=m) h2 hk hfm
     exact ih (j6O n k) s2 (j8c f n k) u s1 s3 ⟨Below.refl _ _,EnvX.box hu⟩ (hA.up (EnvX.bel hu)) (ht.below (EnvX.bel hu))
    have HND:Hid (Rt w 116 #[idv (j2A L f n 0),idv (j2A L f n 1)] (idv (j1K ((L.drop f).take n)))):=fun u hu=>by
     rw[←q8x h2 (by omega)]
     exact x0B _ _ u (HRID.out 0) (HRID.out 1) (ht.below (EnvX.bel hu))
    have HNL:Hid ((j1K ((L.drop f).take n)).length≤32):=by show _≤_;rw[(j3t ((hL.drop _).take _)).1];omega
    clear ih hE hA ht
    have HST:=hD (fun k(hk:k<2)=>q67 (HRID.out 0).1 (HRID.out 1).1 hk)
    have HSZ:=hD (q5B (HRID.out 0).1 (HRID.out 1).1)
    have HPK:Hid (∀k,k<2→j2A L f n k=x2Y (j2A L f n 0) (j2A L f n 1) k):=fun k hk=>by
     match k,hk with
     |0,_=>rfl
     |1,_=>rfl
    go_enter func173,ntmps173
    go_upto_region 1 with (fail)
    rw[j1n]
    generalize (w.alloc (.cells (j2Y f n).toArray 188)).alloc (.cells (j0d 32 []) 26)=W at *
    refine rgQ [0,1,2,3,4,5] [] E1 rfl fun hw=>?_
    refine qo rfl hw ?_
    refine qv (v:=ii (f+n)) rfl (fun u hu=>j0a u (j0f j1S u (j0n (k:=1) hu (mT mH) rfl)) rfl) hw ?_
    refine qo rfl hw ?_
    refine qv (v:=ii f) rfl (fun u hu=>j0a u (j0f j1S u (j0n (k:=0) hu (mT mH) rfl)) rfl) hw ?_
    refine qv rfl (fun u hu=>j2M u q1.out.1 q1.out.2 rfl rfl) hw ?_
    refine qv rfl (fun u hu=>j1C u HB.out rfl rfl) hw ?_
    refine enP fun u3 EX2=>?_
    go_upto_region 3 with (fail)
    refine j07 (w0:=w) [0] [(w.heap.size+1,oc (j0d 32 []) 26),(w.heap.size,oc (j2Y f n).toArray 188),(bl,bxL A m c),(bw,bxR bl bw bn),(bn,bxN)] rfl EX2.out ?_
    refine(j0k (R:=fun x N=> ∃g,x= .pointer (some ⟨g,0,none⟩)∧N=[(g,oc (j0d 32 []++j0d 32 []) 189)]) (M0:=[(w.heap.size+1,oc (j0d 32 []) 26),(w.heap.size,oc (j2Y f n).toArray 188),(bl,bxL A m c),(bw,bxR bl bw bn),(bn,bxN)]) rfl rfl (fun _ h=>h) (fun u hu=>j4k (q9b _) u) ?_)
    rintro x N ⟨gs,rfl,rfl⟩ hf he4;intro K' hK';go_big_quiet_op;go_big_quiet_on
    have HGS:=hD (hf _ (mS.2 rfl))
    clear hf
    change j1E _ _ _ _ _ _ [(gs,oc (j0d 32 []++j0d 32 []) 189),(w.heap.size+1,oc (j0d 32 []) 26),(w.heap.size,oc (j2Y f n).toArray 188),(bl,bxL A m c),(bw,bxR bl bw bn),(bn,bxN)]
    refine enL fun u6 EX5=>?_
    go_upto_region 4 with (fail)
    refine rgQ [0,1,2] [] EX5 rfl fun hw=>?_
    refine qv rfl (fun u hu=>j0a u (j2s q2s (k:=0) hu (mT (mT mH)) (j2Y f n) rfl rfl) rfl) hw ?_
    refine qc rfl func174 (fun u hu=>HCUT.out u) hw ?_
    refine qo rfl hw ?_
    refine enP fun u9 EX8=>?_
    go_upto_region 5 with (fail)
    have EI:Hid (EnvX w u9 ((gs,oc (j6s (j2A L f n 0) (j2A L f n 1) 0) 189)::[(w.heap.size+1,oc (j0d 32 []) 26),(w.heap.size,oc (j2Y f n).toArray 188),(bl,bxL A m c),(bw,bxR bl bw bn),(bn,bxN)])):=EX8
    clear EX8
    go_loopw [22] (fun i u=> ∃k:Nat,k≤2∧i= .int .i64 k∧Hid (EnvX w u ((gs,oc (j6s (j2A L f n 0) (j2A L f n 1) k) 189)::[(w.heap.size+1,oc (j0d 32 []) 26),(w.heap.size,oc (j2Y f n).toArray 188),(bl,bxL A m c),(bw,bxR bl bw bn),(bn,bxN)]))) (fun i _=>2- (intOf i).toNat)
    case atStart=>exact⟨0,by omega,rfl,EI⟩
    case round=>
     obtain⟨k,hk,rfl,EK⟩:=hrel
     clear EI
     by_cases hlt:k<2
     · have hk2:(k:Int)<2:=by omega
       have HK:=hD hlt
       have HIX:=hD (HSC.out k hlt)
       have HCK:=hD (HCALL.out k hlt)
       have HSTK:=hD (HST.out k hlt)
       rw[←HPK.out k hlt]at HSTK
       have HRK:=hD (HRID.out k).1
       have HSK:=hD (HSZ.out k)
       have HK32:Hid (k*32+32≤64):=by show _≤_;omega
       go_upto_region 6 with (fail)
       refine rgQ [0,1] [2,3,4] EK rfl fun hw=>?_
       refine qo rfl hw ?_
       refine qv (v:= .agg (j2Y (j8c f n k) (j6O n k)).toArray) rfl (fun u hu=>q24 underlying190 q2s HK.out HIX.out u rfl rfl) hw ?_
       refine j0b<|(j0k (R:=fun x N=> ∃g,x= .pointer (some ⟨g,0,none⟩)∧N=[(g,oc #[ii 0,ii 0] 188)]) (M0:=[(gs,oc (j6s (j2A L f n 0) (j2A L f n 1) k) 189),(w.heap.size+1,oc (j0d 32 []) 26),(w.heap.size,oc (j2Y f n).toArray 188),(bl,bxL A m c),(bw,bxR bl bw bn),(bn,bxN)]) rfl rfl (fun _ h=>h) (fun u hu=>j4k (q9L _) u) ?_)
       rintro x N ⟨g8,rfl,rfl⟩ hf he11;intro K' hK';go_big_quiet_op;go_big_quiet_on
       have HG8:=hD (hf _ (mS.2 rfl))
       clear hf
       refine phE [3] [4] he11 fun hw=>?_
       refine qo rfl hw ?_
       refine j0b<|(sh (cs:=(j2Y (j8c f n k) (j6O n k)).toArray) rfl HG8 q5R rfl (by kernel_rfl) ?_)
       refine fun _=>enL fun u15 EX14=>?_
       go_upto_region 7 with (fail)
       refine rgP [0,1,2,3,4] [5] EX14 rfl ?_;intro hw16 hone
       refine qo rfl ⟨_,hw16⟩ ?_
       refine qv (v:=r1V bl bw bn) rfl (fun u hu=>j0a u (j0f x1q u (j0n (k:=0) hu (mT (mT (mT (mT (mT mH))))) rfl)) rfl) ⟨_,hw16⟩ ?_
       refine qv rfl (fun u hu=>j0a u (j2s q2s (k:=0) hu mH (j2Y (j8c f n k) (j6O n k)) rfl rfl) rfl) ⟨_,hw16⟩ ?_
       (refine j0I (f:=173) (args:= #[.agg (j2Y (j8c f n k) (j6O n k)).toArray]) (caps:= #[ptr bl,ptr bw,ptr bn]) (all:= #[.agg (j2Y (j8c f n k) (j6O n k)).toArray,ptr bl,ptr bw,ptr bn]) (v:=idv (j2A L f n k)) rfl rfl rfl rfl rfl func173 rfl rfl (fun u hu=>HCK.out u (EnvX.sub hu (fun y hy=>mT (mT (mT (mT hy)))))) ?_ hw16;intro K hK;go_big_quiet_op;go_big_quiet_on)
       refine qv (v:= .pointer (some ⟨gs,0+k*32,none⟩)) rfl (fun u hu=>j7e underlying189 aggId.size HK.out u rfl rfl) ⟨_,hw16⟩ ?_
       clear hone hw16
       refine j0b<|(j33 rfl (gs) (0+k*32) (idv (j2A L f n k)) rfl rfl HGS.out.1 189 (j6s (j2A L f n 0) (j2A L f n 1) k) (j6s (j2A L f n 0) (j2A L f n 1) (k+1)) (mT mH) (j08 _ (j0c _ _ (by rw[HRK.out];omega))) (by show 0+k*32+(j0d 32 (j2A L f n k)).size≤_;rw[HSK.out,j0c _ _ (by rw[HRK.out];omega)];have:=HK32.out;omega) (j0Q _ _) (by rw[Nat.zero_add];exact HSTK.out) [(gs,oc (j6s (j2A L f n 0) (j2A L f n 1) (k+1)) 189),(w.heap.size+1,oc (j0d 32 []) 26),(w.heap.size,oc (j2Y f n).toArray 188),(bl,bxL A m c),(bw,bxR bl bw bn),(bn,bxN)] (mA ⟨.inl rfl,fun y hy=> .inr ⟨mT (mT hy),HGS.out.2 y hy⟩⟩) ?_)
       refine fun _=>enL fun u19 EX18=>?_
       go_wp2
       go_roundw
       case rel=>exact⟨k+1,by omega,by go_num,EX18⟩
       case measure=>simp[intOf];omega
     · obtain rfl:k=2:=by omega
       have EK2:Hid (EnvX w wr ((gs,oc (j0d 32 (j2A L f n 0)++j0d 32 (j2A L f n 1)) 189)::[(w.heap.size+1,oc (j0d 32 []) 26),(w.heap.size,oc (j2Y f n).toArray 188),(bl,bxL A m c),(bw,bxR bl bw bn),(bn,bxN)])):=EK
       have HP2:=hD (x2Z (j4M (HRID.out 0).1) (j4M (HRID.out 1).1))
       go_upto_region 9 with (fail)
       refine rgP [0,1,2,3,4,5] [6] EK2 rfl ?_;intro hw20 hone
       refine qv (v:=ndV) rfl (fun u hu=>j0a u (j0f x1P u (j0n (k:=0) hu (mT (mT (mT (mT (mT mH))))) rfl)) rfl) ⟨_,hw20⟩ ?_
       refine qv (v:= .pointer (some ⟨gs,0+0*32,none⟩)) rfl (fun u hu=>j7e (i:=0) underlying189 aggId.size (by decide) u rfl rfl) ⟨_,hw20⟩ ?_
       refine qv rfl (fun u hu=>j0a u (q3z (HRID.out 0).1 hu mH HP2.out.1) rfl) ⟨_,hw20⟩ ?_
       refine qv (v:= .pointer (some ⟨gs,0+1*32,none⟩)) rfl (fun u hu=>j7e (i:=1) underlying189 aggId.size (by decide) u rfl rfl) ⟨_,hw20⟩ ?_
       refine qv rfl (fun u hu=>j0a u (q3z (HRID.out 1).1 hu mH HP2.out.2) rfl) ⟨_,hw20⟩ ?_
       (refine j0I (f:=116) (args:= #[idv (j2A L f n 0),idv (j2A L f n 1)]) (caps:= #[]) (all:= #[idv (j2A L f n 0),idv (j2A L f n 1)]) (v:=idv (j1K ((L.drop f).take n))) rfl rfl rfl rfl rfl func116 rfl rfl (fun u hu=>HND.out u (nl hu)) ?_ hw20;intro K hK;go_big_quiet_op;go_big_quiet_on)
       clear hone hw20
       refine j0b<|(so rfl HLE.out (mT mH) (j08 _ (j0c _ _ (by exact HNL.out))) ((j0c _ _ (by simp)).trans (j0c _ _ (by exact HNL.out)).symm) (j0Q _ _) ?_)
       refine fun _=>enL fun u23 EX22=>?_
       have hsz:Hid ((j0d 32 (j1K ((L.drop f).take n))).size=32):=j0c _ _ HNL.out
       have Q0:=hD (EnvX.box EX22.out _ _ mH)
       have HBEL:=hD EX22.out.bel
       clear EX22
       unfold idv
       generalize hcn:j0d 32 (j1K ((L.drop f).take n))=cn at *
       have HCN:=hD hcn
       clear hcn
       go_wp2_with ((with_reducible refine bodyPost_ret (v:= .agg cn) ?_ ?_ ?_);(exact results_cell_row (p:=5) (ty:=26) results173 _ _ (w.heap.size+1) 26 cn (0,0) _ rfl Q0.out underlying26 rfl (j08 cn hsz.out));(rfl))
       first|exact HBEL.out|exact⟨rfl,HBEL.out⟩|exact⟨by unfold idv;rw[HCN.out],HBEL.out⟩
section
variable {a:Act}{dst:Option Tmp}{ty:TypeId}{pos:String}{after:Array Edge}{gd:Option (Nat × Bool)}
theorem q8j{fn:Fn}{caps:Array Operand}{cs:Array Value}(u:World)(h:caps.toList.map a.eval=cs.toList):
  (execOp a.eval ⟨dst, .makeFunc fn #[] caps,ty,pos,after,gd⟩).run Tryz.prog u= .ok (.value (.func fn #[] cs)) u:=by
 have ha:caps.map a.eval=cs:=by
  apply Array.ext'
  rw[Array.toList_map]
  exact h
 unfold execOp
 simp only[ha,List.map_toArray,List.map_nil,Instr.makeFunc,Sem.run_bind,Sem.run_pure,Result.andThen_ok]
end
theorem x2X{dst:Option Tmp}{ty:TypeId}{pos:String}{after:Array Edge}{gd:Option (Nat × Bool)}(a:Act):j3r Tryz.prog ⟨dst, .alloc 186,ty,pos,after,gd⟩ a (.cells #[.nilFunc] 186 (0,0)):=
 q5V (z:= .nilFunc) (n:=1) (by kernel_rfl) a
theorem q9Y:(Tryz.prog.info? 186).map (·.size)=some 1:=by kernel_rfl
theorem q1Y(A:Option Addr)(c:Nat)(w:World)(ht:Tables w):
  Rz 115 #[ndV, .slice A 0 c] w (idv (j1K [])):=by
 unfold Rz
 rw[q7j]
 obtain⟨W,hW⟩: ∃W,((((w.alloc (.cells #[ndV] 185)).alloc (.cells #[.slice A 0 c] 35)).alloc (.cells (j0d 32 []) 26)).alloc (.cells #[.int .u8 2] 5)).alloc (.cells #[.slice (some ⟨w.heap.size+1+1+1,0,none⟩) 1 1] 100)=W:=⟨_,rfl⟩
 have r0:Row W (w.heap.size+1+1) 26 (j0d 32 []):=by rw[←hW];exact((Row.newAt (by simp) 26 _).alloc _).alloc _
 have r1:Row W (w.heap.size+1+1+1) 5 #[.int .u8 2]:=by rw[←hW];exact(Row.newAt (by simp) 5 _).alloc _
 have r2:Row W (w.heap.size+1+1+1+1) 100 #[.slice (some ⟨w.heap.size+1+1+1,0,none⟩) 1 1]:=by rw[←hW];exact Row.newAt (by simp) 100 _
 have hbW:Below w.heap.size w W:=by rw[←hW];exact(((((Below.refl _ _).alloc (Nat.le_refl _) _).alloc (by simp) _).alloc (by simp;omega) _).alloc (by simp;omega) _).alloc (by simp;omega) _
 have hs:W.heap.size=w.heap.size+5:=by rw[←hW];simp
 have hb0:Bytes W W.heap.size (some ⟨w.heap.size+1+1+1,0,none⟩) [2]:=(j58 (B:=0) (n:=1) (xs:=[2]) r1 rfl (Nat.zero_le _) (by decide)).up
 have hP:Parts W W.heap.size (some ⟨w.heap.size+1+1+1+1,0,none⟩) [[2]]:=q0s (c:=1) (by omega) (by rw[r2.cell];rfl) hb0 (by intro x hx;simp at hx;omega)
 have HOF:=hD (j4a (some ⟨w.heap.size+1+1+1+1,0,none⟩) 1 1 [[2]] W rfl hP (by omega) (by simp) (ht.below hbW))
 have HE:Hid ([[2]].flatten=([2]:List Int)):=by show _=_;simp
 have R0:=hD r0
 have HB:=hD hbW
 have hz:Hid ((j0d 32 (j4x [2])).size=32∧(j0d 32 []).size=32∧(j0d 32 (j4x [2])).all (·.oneCell')=true):=⟨j0c _ _ (by rw[j1V];omega),j0c _ _ (by simp),j0Q _ _⟩
 have HW:=hD hW
 clear r0 r1 r2 hbW hs hb0 hP ht hW
 rw[HE.out]at HOF
 go_enter func115,ntmps115
 go_upto_region 2 with (fail)
 rw[j1n]
 go_wp2_with fail
 have HO2:=HOF.out
 rw[←HW.out]at HO2
 refine HO2.mono ?_
 rintro e w2 ⟨rfl,hb2⟩
 rw[HW.out]at hb2
 clear HO2
 have Q0:Hid (w2.heap[w.heap.size+1+1]?=some (.cells (j0d 32 []) 26 (0,0))):=R0.out.below hb2 R0.out.lt
 have HB2:=hD (HB.out.trans (hb2.mono HB.out.size))
 clear hb2 HOF R0 HB
 generalize hcn:j0d 32 (j4x [2])=cn at *
 have HCN:=hD hcn
 clear hcn
 generalize j0d 32 []=zs at *
 go_wp2_with (first
  |((with_reducible refine wpList_store_row (o:=⟨none, .store 26 _ _,_,_,_,_⟩) ?_ 26 (.tmp 4) (.tmp 11) ?_ (w.heap.size+1+1) cn ?_ ?_ 26 zs Q0.out (j08 cn hz.out.1) (by rw[hz.out.1,hz.out.2.1]) hz.out.2.2 ?_);(rfl);(rfl);(rfl);(rfl))
  |((with_reducible refine bodyPost_ret (v:= .agg cn) ?_ ?_ ?_);(exact results_cell_row (p:=4) (ty:=26) results115 _ _ (w.heap.size+1+1) 26 cn (0,0) _ rfl (setRow_heap _ _ zs cn 26 (0,0) Q0.out) underlying26 rfl (j08 cn hz.out.1));(rfl)))
 exact⟨by unfold idv;rw[HCN.out],j0G HB2.out (by omega) _⟩
theorem q2k(l:List (List Int))(A:Option Addr)(n c:Nat)(w:World)(hl:l.length=n)(hn:n≤1000000)(hp:1≤n)(hI:isIds l)(hA:IdsIn w w.heap.size A l)(ht:Tables w):
  Rz 115 #[ndV, .slice A n c] w (idv (j1K l)):=by
 unfold Rz
 have HNZ:Hid (decide ((n:Int)=0)=false):=decide_eq_false (by omega)
 have HN:Hid (n<9223372036854775808):=by show _<_;omega
 have HR1:Hid (∀u bl bw bn,EnvX w u [(bw,bxR bl bw bn),(bn,bxN),(bl,bxL A n c)]→Calls Tryz.prog 173 #[.agg #[ii 0,ii n],ptr bl,ptr bw,ptr bn] u fun e w'=>e= .returned (idv (j1K l))∧Below u.heap.size u w'):=fun u bl bw bn hu=>by
  have h:=q8c A n c l bl bw bn hI hl hn n 0 u hp (by omega) ⟨Below.refl _ _,fun g o hm=>by
   rcases List.mem_cons.1 hm with e|hm
   · cases e;exact EnvX.box hu _ _ (mT (mT mH))
   rcases List.mem_cons.1 hm with e|hm
   · cases e;exact EnvX.box hu _ _ mH
   · cases mS.1 hm;exact EnvX.box hu _ _ (mT mH)⟩ (hA.up (EnvX.bel hu)) (ht.below (EnvX.bel hu))
  have e:j2Y 0 n=[ii 0,ii n]:=by unfold j2Y;rw[Nat.zero_add]
  rw[e,List.drop_zero,tL (by omega)]at h
  exact h
 have HNL:Hid ((j1K l).length≤32):=by show _≤_;rw[(j3t hI).1];omega
 have HLE:Hid (w.heap.size≤w.heap.size+1+1):=by show _≤_;omega
 have E1:Hid (EnvX w (((w.alloc (.cells #[ndV] 185)).alloc (.cells #[.slice A n c] 35)).alloc (.cells (j0d 32 []) 26)) [(w.heap.size+1+1,oc (j0d 32 []) 26),(w.heap.size+1,bxL A n c),(w.heap.size,bxN)]):=by
  have h:=((EnvX.start w).two bxN (bxL A n c)).new (oc (j0d 32 []) 26)
  have hs:((w.alloc bxN).alloc (bxL A n c)).heap.size=w.heap.size+1+1:=by simp
  rw[hs]at h
  exact h
 clear hI hA ht
 go_enter func115,ntmps115
 go_upto_region 1 with (fail)
 rw[j1n]
 change Code.wp _ _ _ _ (((w.alloc (.cells #[ndV] 185)).alloc (.cells #[.slice A n c] 35)).alloc (.cells (j0d 32 []) 26))
 generalize ((w.alloc (.cells #[ndV] 185)).alloc (.cells #[.slice A n c] 35)).alloc (.cells (j0d 32 []) 26)=W at *
 refine rgQ [0,1,2] [] E1 rfl fun hw=>?_
 refine qv (v:= .slice A n c) rfl (fun u hu=>j0a u (j0f q6J u (j0n (k:=0) hu (mT mH) rfl)) rfl) hw ?_
 refine qv rfl (fun u hu=>j0l underlying35 HN.out u rfl) hw ?_
 refine qv rfl (fun u hu=>j1C u HNZ.out rfl rfl) hw ?_
 refine enP fun u3 EX2=>?_
 go_upto_region 3 with (fail)
 refine j07 (w0:=w) [0] [(w.heap.size+1+1,oc (j0d 32 []) 26),(w.heap.size+1,bxL A n c),(w.heap.size,bxN)] rfl EX2.out ?_
 refine(j0k (R:=fun x N=> ∃g,x= .pointer (some ⟨g,0,none⟩)∧N=[(g,oc #[.nilFunc] 186)]) (M0:=[(w.heap.size+1+1,oc (j0d 32 []) 26),(w.heap.size+1,bxL A n c),(w.heap.size,bxN)]) rfl rfl (fun _ h=>h) (fun u hu=>j4k (x2X _) u) ?_)
 rintro x N ⟨bw,rfl,rfl⟩ hf he4;intro K' hK';go_big_quiet_op;go_big_quiet_on
 have HGW:=hD (hf _ (mS.2 rfl))
 clear hf
 change j1E _ _ _ _ _ _ [(bw,oc #[.nilFunc] 186),(w.heap.size+1+1,oc (j0d 32 []) 26),(w.heap.size+1,bxL A n c),(w.heap.size,bxN)]
 refine enL fun u6 EX5=>?_
 go_upto_region 4 with (fail)
 refine rgQ [0] [1] EX5 rfl fun hw=>?_
 refine qv (v:=r1V (w.heap.size+1) bw w.heap.size) rfl (fun u hu=>q8j u rfl) hw ?_
 refine j0b<|(j33 rfl (bw) (0) (r1V (w.heap.size+1) bw w.heap.size) rfl rfl HGW.out.1 186 (#[.nilFunc]) (#[r1V (w.heap.size+1) bw w.heap.size]) mH q9Y (Nat.le_refl 1) (by kernel_rfl) rfl [(bw,oc (#[r1V (w.heap.size+1) bw w.heap.size]) 186),(w.heap.size+1+1,oc (j0d 32 []) 26),(w.heap.size+1,bxL A n c),(w.heap.size,bxN)] (mA ⟨.inl rfl,fun y hy=> .inr ⟨mT hy,HGW.out.2 y hy⟩⟩) ?_)
 refine fun _=>enL fun u10 EX9=>?_
 go_upto_region 5 with (fail)
 refine rgP [0,1,2,3,4] [5] EX9 rfl ?_;intro hw11 hone
 refine qv (v:=r1V (w.heap.size+1) bw w.heap.size) rfl (fun u hu=>j0a u (j0f x1q u (j0n (k:=0) hu mH rfl)) rfl) ⟨_,hw11⟩ ?_
 refine qv (v:= .slice A n c) rfl (fun u hu=>j0a u (j0f q6J u (j0n (k:=0) hu (mT (mT mH)) rfl)) rfl) ⟨_,hw11⟩ ?_
 refine qv rfl (fun u hu=>j0l underlying35 HN.out u rfl) ⟨_,hw11⟩ ?_
 refine qv (v:= .agg #[ii 0,ii n]) rfl (fun u hu=>j0p u (by kernel_rfl)) ⟨_,hw11⟩ ?_
 (refine j0I (f:=173) (args:= #[.agg #[ii 0,ii n]]) (caps:= #[ptr (w.heap.size+1),ptr bw,ptr w.heap.size]) (all:= #[.agg #[ii 0,ii n],ptr (w.heap.size+1),ptr bw,ptr w.heap.size]) (v:=idv (j1K l)) rfl rfl rfl rfl rfl func173 rfl rfl (fun u hu=>HR1.out u _ _ _ (EnvX.sub hu (mA ⟨mH,mA ⟨(mT (mT (mT mH))),mA ⟨(mT (mT mH)),(fun _ h=>by cases h)⟩⟩⟩))) ?_ hw11;intro K hK;go_big_quiet_op;go_big_quiet_on)
 clear hone hw11
 refine j0b<|(so rfl HLE.out (mT mH) (j08 _ (j0c _ _ (by exact HNL.out))) ((j0c _ _ (by simp)).trans (j0c _ _ (by exact HNL.out)).symm) (j0Q _ _) ?_)
 refine fun _=>enL fun u14 EX13=>?_
 have hsz:Hid ((j0d 32 (j1K l)).size=32):=j0c _ _ HNL.out
 have Q0:=hD (EnvX.box EX13.out _ _ mH)
 have HBEL:=hD EX13.out.bel
 clear EX13
 unfold idv
 generalize hcn:j0d 32 (j1K l)=cn at *
 have HCN:=hD hcn
 clear hcn
 go_wp2_with ((with_reducible refine bodyPost_ret (v:= .agg cn) ?_ ?_ ?_);(exact results_cell_row (p:=4) (ty:=26) results115 _ _ (w.heap.size+1+1) 26 cn (0,0) _ rfl Q0.out underlying26 rfl (j08 cn hsz.out));(rfl))
 first|exact HBEL.out|exact⟨rfl,HBEL.out⟩|exact⟨by unfold idv;rw[HCN.out],HBEL.out⟩
theorem q5o(l:List (List Int))(A:Option Addr)(n c:Nat)(w:World)(hl:l.length=n)(hn:n≤1000000)(hI:isIds l)(hA:IdsIn w w.heap.size A l)(ht:Tables w):
   Rz 115 #[ndV, .slice A n c] w (idv (j1K l)):=by
 unfold Rz
 by_cases h0:n=0
 · subst h0
   obtain rfl:=List.eq_nil_of_length_eq_zero hl
   exact q1Y A c w ht
 · exact q2k l A n c w hl hn (by omega) hI hA ht
theorem q3a(l:List (List Int))(A:Option Addr)(n c:Nat)(w:World)(hl:l.length=n)(hn:n≤1000000)(hI:isIds l)(hA:IdsIn w w.heap.size A l)(ht:Tables w):
  Rz 69 #[.slice A n c] w (idv (j1K l)):=by
 unfold Rz
 have HC:Hid (Rt w 115 #[ndV, .slice A n c] (idv (j1K l))):=fun u hu=>q5o l A n c u hl hn hI (hA.up (EnvX.bel hu)) (ht.below (EnvX.bel hu))
 have HNL:Hid ((j1K l).length≤32):=by show _≤_;rw[(j3t hI).1];omega
 have E1:Hid (EnvX w (w.alloc (.cells (j0d 32 []) 26)) [(w.heap.size,oc (j0d 32 []) 26)]):=(EnvX.start w).new _
 clear hI hA ht
 go_enter func69,ntmps69
 go_upto_region 1 with (fail)
 rw[j1n]
 generalize w.alloc (.cells (j0d 32 []) 26)=W at *
 refine rgQ [0,1] [2] E1 rfl fun hw=>?_
 refine qo rfl hw ?_
 refine qc rfl func115 (fun u hu=>HC.out u (nl hu)) hw ?_
 refine j0b<|(so rfl (Nat.le_refl _) mH (j08 _ (j0c _ _ (by exact HNL.out))) ((j0c _ _ (by simp)).trans (j0c _ _ (by exact HNL.out)).symm) (j0Q _ _) ?_)
 refine fun _=>enL fun u4 EX3=>?_
 have hsz:Hid ((j0d 32 (j1K l)).size=32):=j0c _ _ HNL.out
 have Q0:=hD (EnvX.box EX3.out _ _ mH)
 have HBEL:=hD EX3.out.bel
 clear EX3
 unfold idv
 generalize hcn:j0d 32 (j1K l)=cn at *
 have HCN:=hD hcn
 clear hcn
 go_wp2_with ((with_reducible refine bodyPost_ret (v:= .agg cn) ?_ ?_ ?_);(exact results_cell_row (p:=2) (ty:=26) results69 _ _ w.heap.size 26 cn (0,0) _ rfl Q0.out underlying26 rfl (j08 cn hsz.out));(rfl))
 first|exact HBEL.out|exact⟨rfl,HBEL.out⟩|exact⟨by unfold idv;rw[HCN.out],HBEL.out⟩
theorem x4H:ElemT 35 26 32 32 (.agg (j0d 32 [])):=⟨underlying35,by kernel_rfl,j0c _ _ (by simp),by decide,by decide,by decide⟩
section
variable {a:Act}{dst:Option Tmp}{x y:Operand}{ty:TypeId}{pos:String}{after:Array Edge}{gd:Option (Nat × Bool)}
theorem q0V{n:Nat}(hn:n≤1000000)(hx:a.eval x= .int .i64 (n:Int))(u:World):
  FAt Tryz.prog ⟨dst, .makeSlice 35 (.const (.int .i64 0)) x,ty,pos,after,gd⟩ a (fun v N=> ∃g cur,v= .slice (some ⟨g,0,none⟩) 0 n∧N=[(g,oc cur 26)]∧cur.size=n*32) u:=by
 have T:=x4H
 cases hq:Tryz.prog.info? 26 with
 |none=>have:=T.info;rw[hq]at this;cases this
 |some i=>
  have hi:=T.info
  rw[hq]at hi
  simp only[Option.map_some,Option.some.injEq,Prod.mk.injEq]at hi
  obtain⟨k1,k2,k3⟩:=hi
  have hmul:32*n≤32*1000000:=Nat.mul_le_mul (Nat.le_refl _) hn
  have hr:=run_make (P:=Tryz.prog) u 35 26 i (.agg (j0d 32 [])) T.und hq k1 .i64 .i64 0 (n:Int) (by omega) (by omega) (by rw[k3,←Int.natCast_mul];omega) (by omega)
  have ha0:a.eval (.const (.int .i64 0))= .int .i64 0:=rfl
  unfold FAt execOp
  simp only[hx,ha0,Sem.run_bind,Sem.run_pure,hr,Result.andThen_ok]
  refine⟨(Below.refl _ _).alloc (Nat.le_refl _) _,[(u.heap.size,oc (madeCells (Value.agg (j0d 32 [])).cells ((n:Int).toNat*i.size)) 26)],⟨u.heap.size,madeCells (Value.agg (j0d 32 [])).cells ((n:Int).toNat*i.size),rfl,rfl,?_⟩,fun y hy=>?_⟩
  · rw[size_madeCells,k2]
    simp
  · cases mS.1 hy
    exact⟨Nat.le_refl _,heap_alloc_new u _⟩
end
theorem x3n(t:TxM)(w:World)(ht:TxOk w t)(htt:Tables w)(k:j4z t.r=false):
  Rz 133 #[txV t] w (idv (idX t.r)):=by
 unfold Rz
 have hp:j9M t.r=([],false):=by unfold j9M;rw[k];rfl
 have hi:idX t.r=z32:=by unfold idX;rw[k];rfl
 rw[hi]
 have HZ:Hid ((j0d 32 z32).size=32):=j0c _ _ (by decide)
 clear k hi
 have HLE:Hid (w.heap.size≤w.heap.size+1):=by show _≤_;omega
 have E1:Hid (EnvX w ((w.alloc (.cells (txA t) 77)).alloc (.cells (j0d 32 []) 26)) [(w.heap.size+1,oc (j0d 32 []) 26),(w.heap.size,oc (txA t) 77)]):=(EnvX.start w).two _ _
 have HPT:Hid (∀u,Below w.heap.size w u→Calls Tryz.prog 184 #[txV t] u fun e w'=>(∃v,e= .returned (.tuple #[v, .bool (j9M t.r).2])∧OwnB w' u.heap.size v (j9M t.r).1)∧Below u.heap.size u w'):=fun u hu=>q3O t u (ht.up hu)
 rw[hp]at HPT
 clear hp ht
 unfold txV at *
 go_enter func133,ntmps133
 go_upto_region 1 with (fail)
 rw[j1n]
 generalize (w.alloc (.cells (txA t) 77)).alloc (.cells (j0d 32 []) 26)=W at *
 have HLD:Hid ((loadVar 77 ⟨w.heap.size,0,none⟩).run Tryz.prog W= .ok (.agg (txA t)) W):=q6e E1.out (mT mH)
 go_wp2_with ((with_reducible refine j1W (o:=⟨some 6,_,_,_,_,_⟩) ?_ 77 (.tmp 1) ?_ ⟨w.heap.size,0,none⟩ ?_ HLD.out ?_);(rfl);(rfl);(rfl))
 refine(HPT.out W (EnvX.bel E1.out)).mono ?_
 rintro e w1 ⟨⟨v,rfl,hv⟩,hb⟩
 have E2:Hid (EnvX w w1 [(w.heap.size+1,oc (j0d 32 []) 26),(w.heap.size,oc (txA t) 77)]):=EnvX.below E1.out hb
 clear hv hb E1 HLD htt
 go_upto_region 3 with (fail)
 refine rgQ [0] [1] E2 rfl fun hw=>?_
 refine qv (v:= .agg (j0d 32 z32)) rfl (fun u hu=>j0p u q8n) hw ?_
 refine j0b<|(so rfl HLE.out mH (j08 _ HZ.out) ((j0c _ _ (by simp)).trans HZ.out.symm) (j0Q _ _) ?_)
 refine fun _=>enL fun u4 EX3=>?_
 have Q0:=hD (EnvX.box EX3.out _ _ mH)
 have HBEL:=hD EX3.out.bel
 clear EX3
 go_wp2_with ((with_reducible refine bodyPost_ret (v:= .agg (j0d 32 z32)) ?_ ?_ ?_);(exact results_cell_row (p:=2) (ty:=26) results133 _ _ (w.heap.size+1) 26 (j0d 32 z32) (0,0) _ rfl Q0.out underlying26 rfl (j08 _ HZ.out));(rfl))
 exact⟨rfl,HBEL.out⟩
theorem q9v(t:TxM)(w:World)(ht:TxOk w t)(htt:Tables w)(k:j4z t.r=true):
   Rz 133 #[txV t] w (idv (idX t.r)):=by
 unfold Rz
 have hp:j9M t.r=(j3K t.r,true):=by unfold j9M;rw[k];rfl
 have hi:idX t.r=j4x (6::j3K t.r):=by unfold idX;rw[k];rfl
 rw[hi]
 obtain⟨su,hsu⟩: ∃su,j4x (6::j3K t.r)=su:=⟨_,rfl⟩
 have HZ:Hid ((j0d 32 su).size=32):=j0c _ _ (by rw[←hsu,j1V];omega)
 have HSU:=hD hsu
 rw[hsu]
 clear hsu
 obtain⟨m,hm⟩: ∃m,(j3K t.r).length=m:=⟨_,rfl⟩
 have hml:2≤m∧m≤200:=by
   have h1:=q7P ht.ok
   have h2:=mayX_iff.1 k
   omega
 have HBO:Hid ((j3K t.r).length=m∧isB (j3K t.r)):=⟨hm,q4i ht.ok k⟩
 have HML:=hD hml
 clear k hi hm hml
 have HLE:Hid (w.heap.size≤w.heap.size+1):=by show _≤_;omega
 have E1:Hid (EnvX w ((w.alloc (.cells (txA t) 77)).alloc (.cells (j0d 32 []) 26)) [(w.heap.size+1,oc (j0d 32 []) 26),(w.heap.size,oc (txA t) 77)]):=(EnvX.start w).two _ _
 have HPT:Hid (∀u,Below w.heap.size w u→Calls Tryz.prog 184 #[txV t] u fun e w'=>(∃v,e= .returned (.tuple #[v, .bool (j9M t.r).2])∧OwnB w' u.heap.size v (j9M t.r).1)∧Below u.heap.size u w'):=fun u hu=>q3O t u (ht.up hu)
 rw[hp]at HPT
 clear hp ht
 unfold txV at *
 go_enter func133,ntmps133
 go_upto_region 1 with (fail)
 rw[j1n]
 generalize (w.alloc (.cells (txA t) 77)).alloc (.cells (j0d 32 []) 26)=W at *
 have HLD:Hid ((loadVar 77 ⟨w.heap.size,0,none⟩).run Tryz.prog W= .ok (.agg (txA t)) W):=q6e E1.out (mT mH)
 go_wp2_with ((with_reducible refine j1W (o:=⟨some 6,_,_,_,_,_⟩) ?_ 77 (.tmp 1) ?_ ⟨w.heap.size,0,none⟩ ?_ HLD.out ?_);(rfl);(rfl);(rfl))
 refine(HPT.out W (EnvX.bel E1.out)).mono ?_
 rintro e w1 ⟨⟨v,rfl,hv⟩,hb⟩
 obtain⟨hv1,⟨_,h0⟩|⟨gv,capv,curv,rfl,hg1,hg2,hg3⟩⟩:=hv
 · have:=HBO.out.1
   have:=HML.out
   have h1:(j3K t.r).length=0:=h0
   omega
 have E2:Hid (EnvX w w1 [(gv,oc curv 5),(w.heap.size+1,oc (j0d 32 []) 26),(w.heap.size,oc (txA t) 77)]):=⟨(EnvX.below E1.out hb).bel,fun g o hm=>by
   rcases List.mem_cons.1 hm with e|e
   · cases e
     exact hg2
   · exact(EnvX.below E1.out hb).box g o e⟩
 rw[HBO.out.1]at hg3 ⊢
 have HGV:=hD hg3
 have HOF:Hid (∀(u:World)(gr:Nat),EnvX w u []→Parts u u.heap.size (some ⟨gr,0,none⟩) [[6],j3K t.r]→Calls Tryz.prog 65 #[.slice (some ⟨gr,0,none⟩) 2 2] u fun e w'=>e= .returned (.agg (j0d 32 su))∧Below u.heap.size u w'):=fun u gr hE hp=>by
   have e:[[6],j3K t.r].flatten=6::j3K t.r:=by simp
   have h1:=j4a (some ⟨gr,0,none⟩) 2 2 [[6],j3K t.r] u rfl hp (by omega) (by rw[e,List.length_cons,HBO.out.1];have:=HML.out;omega) (htt.below hE.bel)
   rwa[e,HSU.out]at h1
 clear hv1 hb E1 HLD hg1 hg2 hg3 htt
 go_upto_region 4 with (fail)
 refine j07 (w0:=w) [0,1,2,3,4] [(gv,oc curv 5),(w.heap.size+1,oc (j0d 32 []) 26),(w.heap.size,oc (txA t) 77)] rfl E2.out ?_
 refine(j0k (R:=fun v N=> ∃g,v= .slice (some ⟨g,0,none⟩) 1 1∧N=[(g,oc #[.int .u8 6] 5)]) (M0:=[(gv,oc curv 5),(w.heap.size+1,oc (j0d 32 []) 26),(w.heap.size,oc (txA t) 77)]) rfl rfl (fun _ h=>h) (fun u hu=>j39 6 u) ?_)
 rintro _ _ ⟨g5,rfl,rfl⟩ hf he1;intro K' hK';go_big_quiet_op;go_big_quiet_on
 clear hf
 refine phE [1] [2,3,4] he1 fun hw=>?_
 refine qo rfl hw ?_
 refine j0b<|(j0k (R:=fun v N=> ∃g,v= .slice (some ⟨g,0,none⟩) 2 2∧N=[(g,oc #[.slice (some ⟨g5,0,none⟩) 1 1, .slice (some ⟨gv,0,none⟩) m capv] 100)]) (M0:=[(g5,oc #[.int .u8 6] 5),(gv,oc curv 5),(w.heap.size+1,oc (j0d 32 []) 26),(w.heap.size,oc (txA t) 77)]) rfl rfl (fun _ h=>h) (fun u hu=>q0Q rfl rfl u) ?_)
 rintro _ _ ⟨gr,rfl,rfl⟩ hf he3;intro K' hK';go_big_quiet_op;go_big_quiet_on
 clear hf
 refine phE [3] [4] he3 fun hw=>?_
 refine qc rfl func65 (fun u hu=>HOF.out u gr (nl hu) (j7n (EnvX.lt hu mH) (by have h:=j0n (k:=0) hu mH rfl;exact h) (j06 (cap:=1) hu (mT mH) rfl ⟨by decide,by decide,rfl,rfl⟩) (by intro x hx;cases mS.1 hx;omega) (by have h:=j0n (k:=1) hu mH rfl;rw[HBO.out.1];exact h) (j06 hu (mT (mT mH)) HBO.out.1 HGV.out) HBO.out.2)) hw ?_
 refine j0b<|(so rfl HLE.out (mT (mT (mT mH))) (j08 _ HZ.out) ((j0c _ _ (by simp)).trans HZ.out.symm) (j0Q _ _) ?_)
 refine fun _=>enL fun u7 EX6=>?_
 have Q0:=hD (EnvX.box EX6.out _ _ mH)
 have HBEL:=hD EX6.out.bel
 clear EX6
 go_wp2_with ((with_reducible refine bodyPost_ret (v:= .agg (j0d 32 su)) ?_ ?_ ?_);(exact results_cell_row (p:=2) (ty:=26) results133 _ _ (w.heap.size+1) 26 (j0d 32 su) (0,0) _ rfl Q0.out underlying26 rfl (j08 _ HZ.out));(rfl))
 exact⟨rfl,HBEL.out⟩
theorem j9m(t:TxM)(w:World)(ht:TxOk w t)(htt:Tables w):
  Rz 133 #[txV t] w (idv (idX t.r)):=by
 unfold Rz
 cases k:j4z t.r with
 |true=>exact q9v t w ht htt k
 |false=>exact x3n t w ht htt k
theorem j8H(l:List TxM)(A:Option Addr)(n c:Nat)(w:World)(hl:l.length=n)(hn:n≤1000000)(hnc:n≤c)(hcm:c≤maxLen)(hA:TxsIn w A l)(ht:Tables w):
  Rz 81 #[.slice A n c] w (idv (j1K (j7E (rsT l)))):=by
 unfold Rz
 have HL:=hD hl
 have HIA:=hD hA
 have HTT:=hD ht
 have HN6:Hid (n≤1000000):=hn
 have HN63:Hid (n<9223372036854775808):=by show _<_;omega
 have HNM:Hid (n≤maxLen):=Nat.le_trans hnc hcm
 have hri:=j3t (j5W (rsT l))
 have HRT:Hid (∀(u:World)(A1:Option Addr)(c1:Nat),Below w.heap.size w u→(j7E (rsT l)).length≤c1→c1≤maxLen→IdsIn u u.heap.size A1 (j7E (rsT l))→Calls Tryz.prog 69 #[.slice A1 (j7E (rsT l)).length c1] u fun e w'=>e= .returned (idv (j1K (j7E (rsT l))))∧Below u.heap.size u w'):=fun u A1 c1 hb h1 h2 h3=>q3a (j7E (rsT l)) A1 _ c1 u rfl (by rw[q3v,hl];exact hn) (j5W _) h3 (ht.below hb)
 have E1:Hid (EnvX w (w.alloc (.cells (j0d 32 []) 26)) [(w.heap.size,oc (j0d 32 []) 26)]):=(EnvX.start w).new _
 generalize j1K (j7E (rsT l))=rt at *
 have HZ:Hid ((j0d 32 rt).size=32):=j0c _ _ (by rw[hri.1];omega)
 clear hl hA ht hnc hcm hri
 unfold idv
 go_enter func81,ntmps81
 go_upto_region 1 with (fail)
 rw[j1n]
 generalize w.alloc (.cells (j0d 32 []) 26)=W at *
 refine rgQ [0,1] [2,3] E1 rfl fun hw=>?_
 refine qo rfl hw ?_
 refine qv rfl (fun u hu=>j0l underlying23 HN63.out u rfl) hw ?_
 refine j0b<|(j0k (R:=fun v N=> ∃g cur,v= .slice (some ⟨g,0,none⟩) 0 n∧N=[(g,oc cur 26)]∧cur.size=n*32) (M0:=[(w.heap.size,oc (j0d 32 []) 26)]) rfl rfl (fun _ h=>h) (fun u hu=>q0V HN6.out rfl u) ?_)
 rintro _ _ ⟨gm,cm,rfl,rfl,hcm⟩ hf he2;intro K' hK';go_big_quiet_op;go_big_quiet_on
 have HCM:=hD hcm
 have HGM:=hD (hf _ (mS.2 rfl))
 clear hcm
 clear hf
 refine phE [3] [] he2 fun hw=>?_
 refine qo rfl hw ?_
 refine enP fun u5 EX4=>?_
 go_upto_region 2 with (fail)
 refine rgQ [0,1,2] [] EX4 rfl fun hw=>?_
 refine qo rfl hw ?_
 refine qv rfl (fun u hu=>j0l underlying23 HN63.out u rfl) hw ?_
 refine qo rfl hw ?_
 refine enP fun u8 EX7=>?_
 have HINV:Hid (∃N,FreshI (j7E (rsT (l.take 0))) (.slice (some ⟨gm,0,none⟩) 0 n) N∧j01 w N [(w.heap.size,oc (j0d 32 []) 26)]∧EnvX w u8 (N++[(w.heap.size,oc (j0d 32 []) 26)])):=⟨[(gm,oc cm 26)], .inl ⟨gm,n,cm,rfl,rfl,Nat.zero_le _,HNM.out,HCM.out,rfl⟩,(fun y hy=>by cases mS.1 hy;exact HGM.out),EX7.out⟩
 clear EX7 E1 HCM HGM HNM
 go_upto_region 3 with (fail)
 go_loopw [3,11] (fun v iv u=> ∃k:Nat,k≤n∧iv= .int .i64 (k:Int)∧Hid (∃N,FreshI (j7E (rsT (l.take k))) v N∧j01 w N [(w.heap.size,oc (j0d 32 []) 26)]∧EnvX w u (N++[(w.heap.size,oc (j0d 32 []) 26)]))) (fun _ iv _=>n- (intOf iv).toNat)
 case atStart=>exact⟨0,by omega,rfl,HINV⟩
 case round=>
  obtain⟨k,hk,rfl,hinv⟩:=hrel
  obtain⟨N,hF,hN,hE⟩:=hinv.out
  have HF:=hD hF
  have HN:=hD hN
  have EK:=hD hE
  clear hinv HINV hF hN hE
  by_cases hlt:k<n
  · have C3:Hid (decide ((k:Int)<(n:Int))=true):=decide_eq_true (by omega)
    have hkl:k<l.length:=by rw[HL.out];exact hlt
    obtain⟨ad,rfl,-,hld⟩:=HIA.out.loads hkl
    have HLD:Hid (∀u,EnvX w u []→(loadVar 77 (ad.add (k*2))).run Tryz.prog u= .ok (txV (l.getD k j0A)) u):=fun u hu=>(hld u hu).1
    have hst:=q8r hkl
    have hQl:(j7E (rsT (l.take k))).length=k:=by rw[q3v,List.length_take];omega
    have HID:Hid (Rb w 133 #[txV (l.getD k j0A)] (idv (idX (l.getD k j0A).r))):=fun u hu=>j9m _ u ((HIA.out.get hkl).up hu) (HTT.out.below hu)
    have HQ:Hid (isIds (j7E (rsT (l.take k)))∧(j7E (rsT (l.take k))).length≤1000000):=⟨j5W _,by omega⟩
    have HKN:=hD hlt
    have HST:=hD hst
    clear hst hQl hkl hlt hld
    generalize j7E (rsT (l.take k))=Q at *
    generalize l.getD k j0A=t at *
    have HLX:Hid ((idX t.r).length=32):=(j8A t.r).1
    go_upto_region 3 with (fail)
    refine rgQ [0] [] EK rfl fun hw=>?_
    refine qv rfl (fun u hu=>j0o u C3.out rfl rfl) hw ?_
    refine enP fun u11 EX10=>?_
    go_upto_region 4 with (fail)
    refine rgQ [0,1] [2,3] EX10 rfl fun hw=>?_
    refine qv rfl (fun u hu=>j0h underlying23 aggTx.size HKN.out u rfl rfl) hw ?_
    refine qv rfl (fun u hu=>j0a u (HLD.out u (nl hu)) rfl) hw ?_
    refine j0b<|qn rfl (j6G _) fun gt HGT he13=>?_
    change j1E _ _ _ _ _ _ ((gt,oc (txA j0A) 77)::(N++((w.heap.size,oc (j0d 32 []) 26)::[])))
    refine(sh rfl HGT (j5i _ (j0Y _)) ((j0Y _).trans (j0Y _).symm) (j3I _) ?_)
    refine fun _=>enL fun u16 EX15=>?_
    go_upto_region 5 with (fail)
    refine rgQ [0,1,2] [3,4,5] EX15 rfl fun hw=>?_
    refine qo rfl hw ?_
    refine ql rfl mH trivial hw ?_
    refine qc rfl func133 (fun u hu=>HID.out u (EnvX.bel hu)) hw ?_
    refine j0b<|(j0k (R:=q1o (idX t.r)) (M0:=((gt,oc (txA t) 77)::(N++((w.heap.size,oc (j0d 32 []) 26)::[])))) rfl rfl (fun _ h=>h) (fun u hu=>j47 HLX.out rfl u) ?_)
    rintro _ _ ⟨gq,rfl,rfl⟩ hf he18;intro K' hK';go_big_quiet_op;go_big_quiet_on
    clear hf
    change j1E _ _ _ _ _ _ ((gq,oc (j0d 32 (idX t.r)) 26)::((gt,oc (txA t) 77)::(N++((w.heap.size,oc (j0d 32 []) 26)::[]))))
    refine(j03 (gd:=none) (R:=q3U w (Q++[idX t.r]) [(w.heap.size,oc (j0d 32 []) 26)]) rfl rfl rfl rfl (fun u hu=>q11 [(w.heap.size,oc (j0d 32 []) 26)] hu HQ.out.1 HLX.out HF.out (fun y hy=>⟨mT (mT (mL hy)),(HN.out y hy).1⟩) mH (fun z hz=>⟨mT (mT (mR hz)),fun y hy=>(HN.out y hy).2 z hz⟩) HQ.out.2 rfl rfl) ?_)
    rintro x9 M' ⟨N9,rfl,hF9,hn9⟩ he19;intro K' hK';go_big_quiet_op;go_big_quiet_on
    have HF9:=hD hF9
    have HN9:=hD hn9
    clear hF9 hn9
    refine phE [5] [] he19 fun hw=>?_
    refine qo rfl hw ?_
    refine enP fun u22 EX21=>?_
    have HNX:Hid (∃N,FreshI (j7E (rsT (l.take (k+1)))) x9 N∧j01 w N [(w.heap.size,oc (j0d 32 []) 26)]∧EnvX w u22 (N++[(w.heap.size,oc (j0d 32 []) 26)])):=⟨N9,by rw[HST.out];exact HF9.out,HN9.out,EX21.out⟩
    have hkn:=HKN.out
    have hn6:=HN6.out
    go_wp2
    go_roundw
    case rel=>exact⟨k+1,by omega,by go_num,HNX⟩
    case measure=>simp[intOf];omega
  · obtain rfl:k=n:=by omega
    have C3:Hid (decide ((k:Int)<(k:Int))=false):=decide_eq_false (by omega)
    rw[tL (by rw[HL.out];exact Nat.le_refl _)]at HF
    go_upto_region 3 with (fail)
    refine rgQ [0] [] EK rfl fun hw=>?_
    refine qv rfl (fun u hu=>j0o u C3.out rfl rfl) hw ?_
    refine enP fun u203 EX202=>?_
    obtain⟨A1,c1,rfl,hc1,hc2⟩:=FreshI.form HF.out
    have HFO:=hD (And.intro hc1 hc2)
    clear hc1 hc2
    go_upto_region 7 with (fail)
    refine rgQ [0,1] [2] EX202 rfl fun hw=>?_
    refine qo rfl hw ?_
    refine qc rfl func69 (fun u hu=>HRT.out u A1 c1 (EnvX.bel hu) HFO.out.1 HFO.out.2 (HF.out.ids (j5W _) hu (fun y hy=>mL hy))) hw ?_
    refine j0b<|(so rfl (Nat.le_refl _) (mR mH) (j08 _ HZ.out) ((j0c _ _ (by simp)).trans HZ.out.symm) (j0Q _ _) ?_)
    refine fun _=>enL fun u207 EX206=>?_
    have Q0:=hD (EnvX.box EX206.out _ _ mH)
    have HBEL:=hD EX206.out.bel
    clear EX206
    go_wp2_with ((with_reducible refine bodyPost_ret (v:= .agg (j0d 32 rt)) ?_ ?_ ?_);(exact results_cell_row (p:=2) (ty:=26) results81 _ _ (w.heap.size) 26 (j0d 32 rt) (0,0) _ rfl Q0.out underlying26 rfl (j08 _ HZ.out));(rfl))
    first|exact HBEL.out|exact⟨rfl,HBEL.out⟩
def SpE(p:List CoinR)(t:TxR)(w:World)(B:Nat)(e:Ending):Prop:= ∃v,e= .returned (.tuple #[v, .int .i64 (j0x p t).2.1, .int .i64 ((j0x p t).2.2:Int)])∧((j0x p t).2.2=0→w.ownsRow B 137 35 v (j0x p t).1.length (((j0x p t).1).map coC).flatten)
theorem SpE.mk{p:List CoinR}{t:TxR}{w:World}{B:Nat}{q:List CoinR}{m:Int}{k:Nat}(v:Value)(h:j0x p t=(q,m,k))(hv:k=0→w.ownsRow B 137 35 v q.length (q.map coC).flatten):SpE p t w B (.returned (.tuple #[v, .int .i64 m, .int .i64 (k:Int)])):=⟨v,by rw[h],by rw[h];exact hv⟩
def SpN(p:List CoinR)(t:TxR)(x:Value)(N:j0e):Prop:= ∃v,x= .tuple #[v, .int .i64 (j0x p t).2.1, .int .i64 ((j0x p t).2.2:Int)]∧((j0x p t).2.2=0→FreshR 137 35 (j0x p t).1.length (((j0x p t).1).map coC).flatten v N)
theorem j2j{f:FuncId}{args:Array Value}{u:World}{p:List CoinR}{t:TxR}(h:Calls Tryz.prog f args u fun e w'=>SpE p t w' u.heap.size e∧Below u.heap.size u w'):
  Calls Tryz.prog f args u fun e w'=> ∃x N,e= .returned x∧SpN p t x N∧Below u.heap.size u w'∧ ∀y∈N,u.heap.size≤y.1∧w'.heap[y.1]?=some y.2:=
 h.mono fun e w'⟨⟨v,he,hv⟩,hb⟩=>by
  by_cases h0:(j0x p t).2.2=0
  · obtain⟨N,hF,hN⟩:=j2i (hv h0)
    exact⟨_,N,he,⟨v,rfl,fun _=>hF⟩,hb,fun y hy=>⟨(hN y hy).1,(hN y hy).2.1⟩⟩
  · exact⟨_,[],he,⟨v,rfl,fun h=>absurd h h0⟩,hb,fun y hy=>by cases hy⟩
theorem q2J{f:FuncId}{args:Array Value}{u:World}{p:List CoinR}{xs:List InR}(h:Calls Tryz.prog f args u fun e w'=>WoE p xs w' u.heap.size e∧Below u.heap.size u w')(hn:j1Z p xs=none):
  Calls Tryz.prog f args u fun e w'=>e= .returned (.tuple #[.slice none 0 0, .int .i64 0, .bool false])∧Below u.heap.size u w':=
 h.mono fun e w'⟨⟨v,m,b,he,hv⟩,hb⟩=>by
  unfold WoR at hv
  rw[hn]at hv
  obtain⟨rfl,rfl,rfl⟩:=hv
  exact⟨he,hb⟩
def WoN(l:List CoinR)(m:Int)(x:Value)(N:j0e):Prop:= ∃v,x= .tuple #[v, .int .i64 m, .bool true]∧FreshR 137 35 l.length (l.map coC).flatten v N
theorem q1F{f:FuncId}{args:Array Value}{u:World}{p:List CoinR}{xs:List InR}{l:List CoinR}{m:Int}(h:Calls Tryz.prog f args u fun e w'=>WoE p xs w' u.heap.size e∧Below u.heap.size u w')(hn:j1Z p xs=some (l,m)):
  Calls Tryz.prog f args u fun e w'=> ∃x N,e= .returned x∧WoN l m x N∧Below u.heap.size u w'∧ ∀y∈N,u.heap.size≤y.1∧w'.heap[y.1]?=some y.2:=
 h.mono fun e w'⟨⟨v,m',b,he,hv⟩,hb⟩=>by
  unfold WoR at hv
  rw[hn]at hv
  obtain⟨hv,rfl,rfl⟩:=hv
  obtain⟨N,hF,hN⟩:=j2i hv
  exact⟨_,N,he,⟨v,rfl,hF⟩,hb,fun y hy=>⟨(hN y hy).1,(hN y hy).2.1⟩⟩
theorem FreshR.lenOf{e:TypeId}{z n:Nat}{xs:List Value}{x:Value}{N:j0e}(h:FreshR e z n xs x N):xs.length=n*z:=by
 rcases h with ⟨g,cap,cur,_,_,h1,_,h3,h4⟩|⟨_,_,h1,h2⟩
 · rw[←h4,List.length_take,Array.length_toList,h3]
   have:n*z≤cap*z:=Nat.mul_le_mul_right _ h1
   omega
 · rw[h2,h1]
   simp
theorem j9o (p:List CoinR) (A:Option Addr) (n c:Nat) (r:TxR) (A1:Option Addr) (n1 c1:Nat) (A2:Option Addr) (n2 c2:Nat) (w:World) (hl:p.length=n) (hnc:n≤c) (hcm:c≤maxLen) (hI:okP p) (hA:CoinsIn w w.heap.size A p) (ht:TxOk w ⟨r,A1,n1,c1,A2,n2,c2⟩) (hmy:j3h p=true) (hmx:j4z r=true) (hin:r.ins≠[]):
   Calls Tryz.prog 211 #[.slice A n c,txV ⟨r,A1,n1,c1,A2,n2,c2⟩,idv (idX r)] w fun e w'=>SpE p r w' w.heap.size e∧Below w.heap.size w w':=by
 have hid:=j8A r
 have hsn:j1Z p r.ins=none→j0x p r=(p,0,8):=fun h=>q4U hmy hmx hin h
 have hss: ∀l m,j1Z p r.ins=some (l,m)→j0x p r=if m<j2F r then (p,0,8)else if j19 l (idX r)then (p,0,10)else if 48<(j1y l (j18 (idX r) 0 r.outs)).length then (p,0,11)else (j1y l (j18 (idX r) 0 r.outs),m- j2F r,0):=fun l m h=>q4w hmy hmx hin h
 have hm3:=mayX_iff.1 hmx
 have hl1:r.ins.length=n1:=ht.l1
 have hl2:r.outs.length=n2:=ht.l2
 have HL2:=hD hl2
 have HWO:Hid (∀u,Below w.heap.size w u→Calls Tryz.prog 229 #[.slice A n c, .slice A1 n1 c1] u fun e w'=>WoE p r.ins w' u.heap.size e∧Below u.heap.size u w'):=fun u hu=>
   j95 p A n c r.ins A1 n1 c1 u hl hI hmy (CellsIn.up hA hu) hl1 (by rw[←hl1];have:=hm3.1;omega) ht.o1 (ht.m1.up hu)
 have HWX:Hid (Rb w 213 #[.slice A2 n2 c2] (.int .i64 (j2F r))):=fun u hu=>
   j8V r.outs A2 n2 c2 u hl2 (by rw[←hl2];have:=hm3.2.2.1;omega) (ht.m2.up hu) (fun o ho=>decide_eq_true (hm3.2.2.2.2.2 o ho))
 have hwb:0≤j2F r∧j2F r≤1099511627776*r.outs.length:=j4v (l:=r.outs) (fun o ho=>decide_eq_true (hm3.2.2.2.2.2 o ho))
 have h3o:n2≤3∧1≤n2:=⟨by rw[←hl2];exact hm3.2.2.1,by rw[←hl2];exact hm3.2.1⟩
 rw[hl2]at hwb
 have HWB:=hD hwb
 have H3O:=hD h3o
 have HOO:Hid (okOuts r.outs):=ht.o2
 have HM2:Hid (OutsIn w w.heap.size A2 r.outs):=ht.m2
 have HPP:=hD hI
 have HMY:=hD hmy
 obtain⟨id,hide⟩: ∃id,idX r=id:=⟨_,rfl⟩
 rw[hide]at hid hss ⊢
 have HID:=hD hid
 have HIL:Hid (id.length=32):=hid.1
 obtain⟨wx,hwx⟩: ∃wx,j2F r=wx:=⟨_,rfl⟩
 rw[hwx]at HWX HWB hss
 have E1:Hid (EnvX w ((w.alloc (.cells (txA ⟨r,A1,n1,c1,A2,n2,c2⟩) 77)).alloc (.cells (j0d 32 id) 26)) [(w.heap.size+1,oc (j0d 32 id) 26),(w.heap.size,oc (txA ⟨r,A1,n1,c1,A2,n2,c2⟩) 77)]):=(EnvX.start w).two _ _
 clear hl hnc hcm hI hA ht hmy hmx hin hid hide hwx hm3 hl1 hl2 hwb h3o
 unfold txV idv
 rcases htk:j1Z p r.ins with _|⟨l,m⟩
 · have HF:Hid (j0x p r=(p,0,8)):=hsn htk
   have HWN:Hid (Rb w 229 #[.slice A n c, .slice A1 n1 c1] (.tuple #[.slice none 0 0, .int .i64 0, .bool false])):=fun u hu=>q2J (HWO.out u hu) htk
   have HSB:Hid (IntKind.i64.wrap (0- wx)=0- wx):=j6R (by have:=HWB.out;have:=H3O.out;omega)
   clear hsn hss htk
   go_enter func211,ntmps211
   go_upto_region 1 with (fail)
   generalize (w.alloc (.cells (txA ⟨r,A1,n1,c1,A2,n2,c2⟩) 77)).alloc (.cells (j0d 32 id) 26)=W at *
   refine rgQ [0,1,2,3,4,5,6,7,8,9,10] [] E1 rfl fun hw=>?_
   refine qw 2 hw ?_
   refine ql rfl (mT mH) trivial hw ?_
   refine qc rfl func229 (fun u hu=>HWN.out u (EnvX.bel hu)) hw ?_
   refine qw 7 hw ?_
   refine enP fun u3 EX2=>?_
   go_upto_region 2 with (fail)
   refine rgQ [0,1,2,3,4,5] [] EX2 rfl fun hw=>?_
   refine qw 2 hw ?_
   refine ql rfl (mT mH) trivial hw ?_
   refine qc rfl func213 (fun u hu=>HWX.out u (EnvX.bel hu)) hw ?_
   refine qv rfl (fun u hu=>j9j u HSB.out rfl rfl) hw ?_
   refine qo rfl hw ?_
   refine enP fun u6 EX5=>?_
   go_upto_region 3 with (fail)
   refine rgQ [0,1,2,3,4,5,6] [] EX5 rfl fun hw=>?_
   refine qw 7 hw ?_
   refine enP fun u9 EX8=>?_
   go_upto_region 4 with (fail)
   refine rgQ [0,1,2] [] EX8 rfl fun hw=>?_
   refine qw 3 hw ?_
   refine enP fun u12 EX11=>?_
   have HBE:=hD (EnvX.bel EX11.out)
   go_wp2
   go_returns
   exact⟨SpE.mk (.slice none 0 0) HF.out (fun h=>by cases h),HBE.out⟩
 · have htb:=j5n HMY.out HPP.out htk
   have HTB:=hD htb
   have HUP:Hid (upP l):=(mayP_iff.1 HMY.out).2.2.sublist (j4B _ _ _ htk).1
   have hsp:=hss l m htk
   have HWS:Hid (∀u,Below w.heap.size w u→Calls Tryz.prog 229 #[.slice A n c, .slice A1 n1 c1] u fun e w'=> ∃x N,e= .returned x∧WoN l m x N∧Below u.heap.size u w'∧ ∀y∈N,u.heap.size≤y.1∧w'.heap[y.1]?=some y.2):=fun u hu=>q1F (HWO.out u hu) htk
   have HSB:Hid (IntKind.i64.wrap (m- wx)=m- wx):=j6R (by have:=HWB.out;have:=H3O.out;have:=htb.2.2;omega)
   have HSP:=hD hsp
   clear hsn hss htk htb hsp
   go_enter func211,ntmps211
   go_upto_region 1 with (fail)
   generalize (w.alloc (.cells (txA ⟨r,A1,n1,c1,A2,n2,c2⟩) 77)).alloc (.cells (j0d 32 id) 26)=W at *
   refine rgQ [0,1,2] [3,4,5,6,7,8,9,10] E1 rfl fun hw=>?_
   refine qw 2 hw ?_
   refine ql rfl (mT mH) trivial hw ?_
   refine j0b<|qr rfl func229 (fun u hu=>HWS.out u (EnvX.bel hu)) ?_
   rintro _ N0 ⟨v0,rfl,hF⟩ hf he2
   obtain⟨A3,c3,rfl,hc1,hc2⟩:=FreshR.formC hF
   have HF0:=hD hF
   have HC3:=hD (And.intro hc1 hc2)
   clear hF hc1 hc2
   clear hf
   refine phE [4,5,6,7,8,9,10] [] he2 fun hw=>?_
   refine qw 7 hw ?_
   refine enP fun u5 EX4=>?_
   have HCO:Hid (∀u M,EnvX w u M→(∀y∈N0,y∈M)→CoinsIn u u.heap.size A3 l):=fun u M hu hm=>j2k (HF0.out.own (w:=u) (B:=0) (j3Y HTB.out.1.lens) (fun y hy=>⟨Nat.zero_le _,hu.box _ _ (hm y hy)⟩))
   go_upto_region 2 with (fail)
   refine rgQ [0,1,2,3,4,5] [] EX4 rfl fun hw=>?_
   refine qw 2 hw ?_
   refine ql rfl (mR (mT mH)) trivial hw ?_
   refine qc rfl func213 (fun u hu=>HWX.out u (EnvX.bel hu)) hw ?_
   refine qv rfl (fun u hu=>j9j u HSB.out rfl rfl) hw ?_
   refine qo rfl hw ?_
   refine enP fun u8 EX7=>?_
   by_cases hlt:m<wx
   · have C4:Hid (decide (m- wx<0)=true):=decide_eq_true (by omega)
     have HF:Hid (j0x p r=(p,0,8)):=by show _=_;rw[HSP.out,if_pos hlt]
     clear hlt
     go_upto_region 3 with (fail)
     refine rgQ [0,1,2,3,4,5,6] [] EX7 rfl fun hw=>?_
     refine qw 4 hw ?_
     refine qv rfl (fun u hu=>j0o u C4.out rfl rfl) hw ?_
     refine qw 2 hw ?_
     refine enP fun u11 EX10=>?_
     go_upto_region 4 with (fail)
     refine rgQ [0,1,2] [] EX10 rfl fun hw=>?_
     refine qw 3 hw ?_
     refine enP fun u14 EX13=>?_
     have HBE:=hD (EnvX.bel EX13.out)
     go_wp2
     go_returns
     exact⟨SpE.mk (.slice none 0 0) HF.out (fun h=>by cases h),HBE.out⟩
   have C4:Hid (decide (m- wx<0)=false):=decide_eq_false (by omega)
   have HSP2:Hid (j0x p r=if j19 l id then (p,0,10)else if 48<(j1y l (j18 id 0 r.outs)).length then (p,0,11)else (j1y l (j18 id 0 r.outs),m- wx,0)):=by show _=_;rw[HSP.out,if_neg hlt]
   clear hlt HSP
   obtain⟨bt,hbt⟩: ∃bt,j19 l id=bt:=⟨_,rfl⟩
   have HBT:=hD hbt
   rw[hbt]at HSP2
   have HHS:Hid (∀u M,EnvX w u M→(∀y∈N0,y∈M)→Calls Tryz.prog 212 #[.slice A3 l.length c3,idv id] u fun e w'=>e= .returned (.bool bt)∧Below u.heap.size u w'):=fun u M hu hm=>by
     have h:=q3W l A3 l.length c3 id u rfl (by have:=HTB.out.2.1;omega) HC3.out.1 HC3.out.2 HTB.out.1 HUP.out (HCO.out u M hu hm) HTB.out.2.2.2.2 HID.out
     rwa[hbt]at h
   clear hbt
   go_upto_region 3 with (fail)
   refine rgQ [0,1,2,3,4,5,6] [] EX7 rfl fun hw=>?_
   refine qw 4 hw ?_
   refine qv rfl (fun u hu=>j0o u C4.out rfl rfl) hw ?_
   refine qw 2 hw ?_
   refine enP fun u11 EX10=>?_
   cases bt with
   | true=>
     have HF:Hid (j0x p r=(p,0,10)):=HSP2.out
     go_upto_region 5 with (fail)
     refine rgQ [0,1,2,3] [] EX10 rfl fun hw=>?_
     refine qo rfl hw ?_
     refine qv rfl (fun u hu=>j0a u (j2q hu (mR mH) HIL.out) rfl) hw ?_
     refine qc rfl func212 (fun u hu=>HHS.out u _ hu (fun y hy=>mL hy)) hw ?_
     refine qo rfl hw ?_
     refine enP fun u14 EX13=>?_
     go_upto_region 6 with (fail)
     refine rgQ [0,1,2] [] EX13 rfl fun hw=>?_
     refine qw 3 hw ?_
     refine enP fun u17 EX16=>?_
     have HBE:=hD (EnvX.bel EX16.out)
     go_wp2
     go_returns
     exact⟨SpE.mk (.slice none 0 0) HF.out (fun h=>by cases h),HBE.out⟩
   | false=>
     have HSP3:Hid (j0x p r=if 48<l.length+n2 then (p,0,11)else (j1y l (j18 id 0 r.outs),m- wx,0)):=by
       show _=_
       rw[HSP2.out,q0x,j5u,HL2.out,Nat.add_comm n2]
       rfl
     have HFU:Hid (∀u,Calls Tryz.prog 214 #[.slice A3 l.length c3, .slice A2 n2 c2] u fun e w'=>e= .returned (.bool (decide (48<l.length+n2)))∧Below u.heap.size u w'):=fun u=>q0H A3 l.length c3 A2 n2 c2 u (by have:=HTB.out.2.1;omega) (by have:=H3O.out;omega)
     clear HSP2
     go_upto_region 5 with (fail)
     refine rgQ [0,1,2,3] [] EX10 rfl fun hw=>?_
     refine qo rfl hw ?_
     refine qv rfl (fun u hu=>j0a u (j2q hu (mR mH) HIL.out) rfl) hw ?_
     refine qc rfl func212 (fun u hu=>HHS.out u _ hu (fun y hy=>mL hy)) hw ?_
     refine qo rfl hw ?_
     refine enP fun u14 EX13=>?_
     by_cases hf:48<l.length+n2
     · rw[decide_eq_true hf]at HFU
       have HF:Hid (j0x p r=(p,0,11)):=by show _=_;rw[HSP3.out,if_pos hf]
       clear hf
       go_upto_region 7 with (fail)
       refine rgQ [0,1,2,3,4] [] EX13 rfl fun hw=>?_
       refine qw 2 hw ?_
       refine ql rfl (mR (mT mH)) trivial hw ?_
       refine qc rfl func214 (fun u hu=>HFU.out u) hw ?_
       refine qo rfl hw ?_
       refine enP fun u17 EX16=>?_
       go_upto_region 8 with (fail)
       refine rgQ [0,1,2] [] EX16 rfl fun hw=>?_
       refine qw 3 hw ?_
       refine enP fun u20 EX19=>?_
       have HBE:=hD (EnvX.bel EX19.out)
       go_wp2
       go_returns
       exact⟨SpE.mk (.slice none 0 0) HF.out (fun h=>by cases h),HBE.out⟩
     · rw[decide_eq_false hf]at HFU
       have HF:Hid (j0x p r=(j1y l (j18 id 0 r.outs),m- wx,0)):=by show _=_;rw[HSP3.out,if_neg hf]
       have HWI:Hid (∀u M,EnvX w u M→(∀y∈N0,y∈M)→Calls Tryz.prog 215 #[.slice A3 l.length c3,idv id, .slice A2 n2 c2] u fun e w'=>(∃v,e= .returned v∧w'.ownsRow u.heap.size 137 35 v (j1y l (j18 id 0 r.outs)).length ((j1y l (j18 id 0 r.outs)).map coC).flatten)∧Below u.heap.size u w'):=fun u M hu hm=>
        j9Z l A3 l.length c3 id r.outs A2 n2 c2 u rfl (by have:=HTB.out.2.1;omega) HC3.out.1 HC3.out.2 HTB.out.1 HUP.out (HCO.out u M hu hm) HID.out HBT.out HL2.out (by have:=H3O.out;omega) (by have:=H3O.out;omega) HOO.out (CellsIn.up HM2.out (EnvX.bel hu))
       have HMO:Hid (okP (j1y l (j18 id 0 r.outs))):=j84 HTB.out.1 (j9u HID.out (fun o ho=>HOO.out o ho) (by rw[HL2.out];have:=H3O.out;omega))
       clear hf HSP3
       generalize j1y l (j18 id 0 r.outs)=q9 at *
       go_upto_region 7 with (fail)
       refine rgQ [0,1,2,3,4] [] EX13 rfl fun hw=>?_
       refine qw 2 hw ?_
       refine ql rfl (mR (mT mH)) trivial hw ?_
       refine qc rfl func214 (fun u hu=>HFU.out u) hw ?_
       refine qo rfl hw ?_
       refine enP fun u17 EX16=>?_
       go_upto_region 9 with (fail)
       refine rgQ [0,1,2,3] [4,5,6,7,8] EX16 rfl fun hw=>?_
       refine qo rfl hw ?_
       refine qv rfl (fun u hu=>j0a u (j2q hu (mR mH) HIL.out) rfl) hw ?_
       refine qf rfl hw ?_
       refine ql rfl (mR (mT mH)) trivial hw ?_
       refine j0b<|qr rfl func215 (fun u hu=>j0i (HWI.out u _ hu (fun y hy=>mL hy))) ?_
       rintro x9 N9 hF hf he19
       have HF9:=hD (And.intro hF hf)
       clear hF
       clear hf
       refine phE [5,6,7,8] [] he19 fun hw=>?_
       refine qw 4 hw ?_
       refine enP fun u22 EX21=>?_
       have HOW:=hD (HF9.out.1.own (w:=u22) (B:=w.heap.size) (j3Y HMO.out.lens) (fun y hy=>⟨(HF9.out.2 y hy).1,EnvX.box EX21.out _ _ (mL hy)⟩))
       have HBE:=hD (EnvX.bel EX21.out)
       go_wp2
       go_returns
       exact⟨SpE.mk x9 HF.out (fun _=>HOW.out),HBE.out⟩
theorem j6f(p:List CoinR)(A:Option Addr)(n c:Nat)(r:TxR)(A1:Option Addr)(n1 c1:Nat)(A2:Option Addr)(n2 c2:Nat)(w:World)(hl:p.length=n)(hnc:n≤c)(hcm:c≤maxLen)(hI:okP p)(hA:CoinsIn w w.heap.size A p)(ht:TxOk w ⟨r,A1,n1,c1,A2,n2,c2⟩)(htt:Tables w):
  Calls Tryz.prog 182 #[.slice A n c,txV ⟨r,A1,n1,c1,A2,n2,c2⟩] w fun e w'=>SpE p r w' w.heap.size e∧Below w.heap.size w w':=by
 have HMY:Hid (Rb w 181 #[.slice A n c] (.bool (j3h p))):=fun u hu=>j3S p A n c u hl hnc hcm hI (CellsIn.up hA hu)
 have HTM:Hid (Rb w 210 #[txV ⟨r,A1,n1,c1,A2,n2,c2⟩] (.bool (j4z r))):=fun u hu=>q2Y ⟨r,A1,n1,c1,A2,n2,c2⟩ u (ht.up hu)
 have HCI:Hid (Rb w 133 #[txV ⟨r,A1,n1,c1,A2,n2,c2⟩] (idv (idX r))):=fun u hu=>j9m ⟨r,A1,n1,c1,A2,n2,c2⟩ u (ht.up hu) (htt.below hu)
 have HEX:Hid (j3h p=true→j4z r=true→r.ins≠[]→ ∀u,Below w.heap.size w u→Calls Tryz.prog 211 #[.slice A n c,txV ⟨r,A1,n1,c1,A2,n2,c2⟩,idv (idX r)] u fun e w'=>SpE p r w' u.heap.size e∧Below u.heap.size u w'):=fun k1 k2 k3 u hu=>
  j9o p A n c r A1 n1 c1 A2 n2 c2 u hl hnc hcm hI (CellsIn.up hA hu) (ht.up hu) k1 k2 k3
 have HM63:Hid (n1<9223372036854775808):=ht.n63.1
 have hl1:r.ins.length=n1:=ht.l1
 have E1:Hid (EnvX w (w.alloc (.cells (txA ⟨r,A1,n1,c1,A2,n2,c2⟩) 77)) [(w.heap.size,oc (txA ⟨r,A1,n1,c1,A2,n2,c2⟩) 77)]):=(EnvX.start w).new _
 have hs1:j3h p=false→j0x p r=(p,0,1):=fun h=>q4W h
 have hs2:j4z r=false→j0x p r=(p,0,1):=fun h=>q4G h
 have hs3:n1=0→j0x p r=(p,0,1):=fun h=>q35 (List.eq_nil_of_length_eq_zero (by rw[hl1,h]))
 have hs4:n1≠0→r.ins≠[]:=fun h e=>h (by rw[←hl1,e];rfl)
 clear hl hnc hcm hI hA ht htt hl1
 unfold txV at *
 obtain⟨id,hid⟩: ∃id,idX r=id:=⟨_,rfl⟩
 rw[hid]at HCI HEX
 clear hid
 obtain⟨b1,h1⟩: ∃b1,j3h p=b1:=⟨_,rfl⟩
 obtain⟨b2,h2⟩: ∃b2,j4z r=b2:=⟨_,rfl⟩
 rw[h1]at HMY HEX hs1
 rw[h2]at HTM HEX hs2
 clear h1 h2
 cases b1 with
 |false=>
  have HF:Hid (j0x p r=(p,0,1)):=hs1 rfl
  clear hs1 hs2 hs3 hs4 HEX
  go_enter func182,ntmps182
  go_upto_region 1 with (fail)
  generalize w.alloc (.cells (txA ⟨r,A1,n1,c1,A2,n2,c2⟩) 77)=W at *
  refine rgQ [0,1,2,3,4,5,6,7,8,9,10,11,12,13] [] E1 rfl fun hw=>?_
  refine qo rfl hw ?_
  refine qc rfl func181 (fun u hu=>HMY.out u (EnvX.bel hu)) hw ?_
  refine qw 12 hw ?_
  refine enP fun u3 EX2=>?_
  go_upto_region 2 with (fail)
  refine rgQ [0,1,2] [] EX2 rfl fun hw=>?_
  refine qw 3 hw ?_
  refine enP fun u6 EX5=>?_
  have HBE:=hD (EnvX.bel EX5.out)
  go_wp2
  go_returns
  exact⟨SpE.mk (.slice none 0 0) HF.out (fun h=>by cases h),HBE.out⟩
 | true=>
  cases b2 with
  |false=>
   have HF:Hid (j0x p r=(p,0,1)):=hs2 rfl
   clear hs1 hs2 hs3 hs4 HEX
   go_enter func182,ntmps182
   go_upto_region 1 with (fail)
   generalize w.alloc (.cells (txA ⟨r,A1,n1,c1,A2,n2,c2⟩) 77)=W at *
   refine rgQ [0,1,2,3,4,5,6,7,8,9,10,11,12,13] [] E1 rfl fun hw=>?_
   refine qo rfl hw ?_
   refine qc rfl func181 (fun u hu=>HMY.out u (EnvX.bel hu)) hw ?_
   refine qw 2 hw ?_
   refine ql rfl mH trivial hw ?_
   refine qc rfl func210 (fun u hu=>HTM.out u (EnvX.bel hu)) hw ?_
   refine qw 8 hw ?_
   refine enP fun u3 EX2=>?_
   go_upto_region 2 with (fail)
   refine rgQ [0,1,2] [] EX2 rfl fun hw=>?_
   refine qw 3 hw ?_
   refine enP fun u6 EX5=>?_
   have HBE:=hD (EnvX.bel EX5.out)
   go_wp2
   go_returns
   exact⟨SpE.mk (.slice none 0 0) HF.out (fun h=>by cases h),HBE.out⟩
  |true=>
   by_cases hz:n1=0
   · have HF:Hid (j0x p r=(p,0,1)):=hs3 hz
     have C12:Hid (decide ((n1:Int)=0)=true):=decide_eq_true (by omega)
     clear hs1 hs2 hs3 hs4 HEX hz
     go_enter func182,ntmps182
     go_upto_region 1 with (fail)
     generalize w.alloc (.cells (txA ⟨r,A1,n1,c1,A2,n2,c2⟩) 77)=W at *
     refine rgQ [0,1,2,3,4,5,6,7,8,9,10,11,12,13] [] E1 rfl fun hw=>?_
     refine qo rfl hw ?_
     refine qc rfl func181 (fun u hu=>HMY.out u (EnvX.bel hu)) hw ?_
     refine qw 2 hw ?_
     refine ql rfl mH trivial hw ?_
     refine qc rfl func210 (fun u hu=>HTM.out u (EnvX.bel hu)) hw ?_
     refine qw 4 hw ?_
     refine ql rfl mH trivial hw ?_
     refine qv rfl (fun u hu=>j0l underlying74 HM63.out u rfl) hw ?_
     refine qv rfl (fun u hu=>j1C u C12.out rfl rfl) hw ?_
     refine qo rfl hw ?_
     refine enP fun u3 EX2=>?_
     go_upto_region 2 with (fail)
     refine rgQ [0,1,2] [] EX2 rfl fun hw=>?_
     refine qw 3 hw ?_
     refine enP fun u6 EX5=>?_
     have HBE:=hD (EnvX.bel EX5.out)
     go_wp2
     go_returns
     exact⟨SpE.mk (.slice none 0 0) HF.out (fun h=>by cases h),HBE.out⟩
   · have HEX2:=hD (HEX.out rfl rfl (hs4 hz))
     have C12:Hid (decide ((n1:Int)=0)=false):=decide_eq_false (by omega)
     clear hs1 hs2 hs3 hs4 HEX hz
     go_enter func182,ntmps182
     go_upto_region 1 with (fail)
     generalize w.alloc (.cells (txA ⟨r,A1,n1,c1,A2,n2,c2⟩) 77)=W at *
     refine rgQ [0,1,2,3,4,5,6,7,8,9,10,11,12,13] [] E1 rfl fun hw=>?_
     refine qo rfl hw ?_
     refine qc rfl func181 (fun u hu=>HMY.out u (EnvX.bel hu)) hw ?_
     refine qw 2 hw ?_
     refine ql rfl mH trivial hw ?_
     refine qc rfl func210 (fun u hu=>HTM.out u (EnvX.bel hu)) hw ?_
     refine qw 4 hw ?_
     refine ql rfl mH trivial hw ?_
     refine qv rfl (fun u hu=>j0l underlying74 HM63.out u rfl) hw ?_
     refine qv rfl (fun u hu=>j1C u C12.out rfl rfl) hw ?_
     refine qo rfl hw ?_
     refine enP fun u3 EX2=>?_
     go_upto_region 3 with (fail)
     refine rgK [0,1,2,3] 7 EX2 rfl fun hw=>?_
     refine qo rfl hw ?_
     refine ql rfl mH trivial hw ?_
     refine ql rfl mH trivial hw ?_
     refine qc rfl func133 (fun u hu=>HCI.out u (EnvX.bel hu)) hw ?_
     refine j0b<|aO 4 (qr rfl func211 (fun u hu=>j2j (HEX2.out u (EnvX.bel hu))) ?_)
     rintro _ N9 ⟨v9,rfl,hF⟩ hf he5
     have HF9:=hD (And.intro hF hf)
     clear hF
     clear hf
     refine phF [5,6,7,8,9,10] 0 rfl he5 fun hw=>?_
     refine qw 6 hw ?_
     refine eH fun u8 EX7=>?_
     have HBE:=hD (EnvX.bel EX7.out)
     have HOW:Hid ((j0x p r).2.2=0→World.ownsRow u8 w.heap.size 137 35 v9 (j0x p r).1.length (((j0x p r).1).map coC).flatten):=fun h0=>by
      have hF:=HF9.out.1 h0
      have hlen:(((j0x p r).1).map coC).flatten.length=(j0x p r).1.length*35:=FreshR.lenOf hF
      exact hF.own hlen (fun y hy=>⟨(HF9.out.2 y hy).1,EnvX.box EX7.out _ _ (mL hy)⟩)
     go_wp2
     go_returns
     exact⟨SpE.mk v9 rfl HOW.out,HBE.out⟩
def j9T(q:List CoinR)(r:TxR)(k:Int):List CoinR × Nat:=if j4z r=false then ([],1)else if j19 q (idX r)then ([],10)else if k<j2F r then ([],8)else if 48<(j1y q (j18 (idX r) 0 r.outs)).length then ([],11)else (j1y q (j18 (idX r) 0 r.outs),0)
theorem q2G{p:List CoinR}{l:List TxR}(h:j3h p=true)(h2: ¬4<l.length){q:List CoinR}{m:Int}(hr:j3U p 0 (if j2P l then l.tail else l)= .ok (q,m))(hl:j2P l=true)(d:TxR):(j0t p l).2=(j9T q (l.getD 0 d) (50+m)).2∧((j0t p l).2=0→(j0t p l).1=(j9T q (l.getD 0 d) (50+m)).1):=by
 rw[q47 h h2 hr hl d]
 unfold j9T
 split
 · exact⟨rfl,fun h=>by cases h⟩
 · split
   · exact⟨rfl,fun h=>by cases h⟩
   · split
     · exact⟨rfl,fun h=>by cases h⟩
     · split
       · exact⟨rfl,fun h=>by cases h⟩
       · exact⟨rfl,fun _=>rfl⟩
theorem q18{p:List CoinR}(hp:idP p)(l:List TxR)(h:(j0t p l).2≠0):(j0t p l).1=p:=by
 cases hm:j3h p with
 |true=>exact(j94 hp hm l).2.2.2 h
 |false=>rw[q0o hm]
def ApE(a:List CoinR × Nat)(w:World)(B:Nat)(e:Ending):Prop:= ∃v,e= .returned (.tuple #[v, .int .i64 (a.2:Int)])∧(a.2=0→w.ownsRow B 137 35 v a.1.length ((a.1).map coC).flatten)
theorem ApE.mk{a:List CoinR × Nat}{w:World}{B:Nat}{k:Nat}(v:Value)(h:a.2=k)(hv:k=0→w.ownsRow B 137 35 v a.1.length ((a.1).map coC).flatten):ApE a w B (.returned (.tuple #[v, .int .i64 (k:Int)])):=⟨v,by rw[h],by rw[h];exact hv⟩
def ApN(a:List CoinR × Nat)(x:Value)(N:j0e):Prop:= ∃v,x= .tuple #[v, .int .i64 (a.2:Int)]∧(a.2=0→FreshR 137 35 a.1.length ((a.1).map coC).flatten v N)
theorem j4H{f:FuncId}{args:Array Value}{u:World}{a:List CoinR × Nat}(h:Calls Tryz.prog f args u fun e w'=>ApE a w' u.heap.size e∧Below u.heap.size u w'):
  Calls Tryz.prog f args u fun e w'=> ∃x N,e= .returned x∧ApN a x N∧Below u.heap.size u w'∧ ∀y∈N,u.heap.size≤y.1∧w'.heap[y.1]?=some y.2:=
 h.mono fun e w'⟨⟨v,he,hv⟩,hb⟩=>by
  by_cases h0:a.2=0
  · obtain⟨N,hF,hN⟩:=j2i (hv h0)
    exact⟨_,N,he,⟨v,rfl,fun _=>hF⟩,hb,fun y hy=>⟨(hN y hy).1,(hN y hy).2.1⟩⟩
  · exact⟨_,[],he,⟨v,rfl,fun h=>absurd h h0⟩,hb,fun y hy=>by cases hy⟩
theorem TxsIn.tail{w:World}{A:Option Addr}{l:List TxM}{c:Nat}(h:TxsIn w A l)(hc:l.length≤c)(h1:1≤l.length):TxsIn w (j5d 2 A 1 c) l.tail:=by
 refine⟨?_,fun t ht=>h.each t (List.mem_of_mem_tail ht)⟩
 have hf:=(j6M l).flat_drop 1
 have e:(l.tail.map txC).flatten=((l.map txC).flatten).drop (1*2):=by
  rw[←hf,←List.map_drop,List.drop_one]
 rw[e]
 refine CellsIn.drop h.cells 2 1 c ?_
 rcases Nat.lt_or_ge 1 c with h'|h'
 · exact .inl h'
 · refine .inr ?_
   rw[(j6M l).flat_len,lM]
   omega
section
variable {a:Act}{dst:Option Tmp}{x y:Operand}{ty:TypeId}{pos:String}{after:Array Edge}{gd:Option (Nat × Bool)}
theorem j7k{t e:TypeId}{z:Nat}(hu:Tryz.prog.underlying t=some (.slice e))(hz:(Tryz.prog.info? e).map (·.size)=some z){A:Option Addr}{ad:Addr}{n c i:Nat}(hi:i<n)(hA:A=some ad)(u:World)
  (hx:a.eval x= .slice A n c) (hy:a.eval y= .int .i64 (i:Int)):
  (execOp a.eval ⟨dst, .indexAddr t x y,ty,pos,after,gd⟩).run Tryz.prog u= .ok (.value (.pointer (some (ad.add (i*z))))) u:=by
 subst hA
 exact j0h hu hz hi u hx hy
end
theorem q7S(p:List CoinR)(A:Option Addr)(n c:Nat)(r:TxR)(A1:Option Addr)(n1 c1:Nat)(A2:Option Addr)(n2 c2:Nat)(k:Int)(w:World)(hl:p.length=n)(hn:n≤1000)(hnc:n≤c)(hcm:c≤maxLen)(hI:okP p)(hup:upP p)(hA:CoinsIn w w.heap.size A p)(hb: ∀c∈p,j1c c=true)(ht:TxOk w ⟨r,A1,n1,c1,A2,n2,c2⟩):
  Calls Tryz.prog 183 #[.slice A n c,txV ⟨r,A1,n1,c1,A2,n2,c2⟩,idv (idX r), .int .i64 k] w fun e w'=>ApE (j9T p r k) w' w.heap.size e∧Below w.heap.size w w':=by
 have hid:=j8A r
 have hl2:r.outs.length=n2:=ht.l2
 have HL2:=hD hl2
 have HL:=hD hl
 have HN1:Hid (n≤1000):=hn
 have HTM:Hid (Rb w 210 #[txV ⟨r,A1,n1,c1,A2,n2,c2⟩] (.bool (j4z r))):=fun u hu=>q2Y ⟨r,A1,n1,c1,A2,n2,c2⟩ u (ht.up hu)
 have HHS:Hid (Rb w 212 #[.slice A n c,idv (idX r)] (.bool (j19 p (idX r)))):=fun u hu=>q3W p A n c (idX r) u hl hn hnc hcm hI hup (CellsIn.up hA hu) hb hid
 have HWX:Hid (j4z r=true→n2≤3∧1≤n2∧ ∀u,Below w.heap.size w u→Calls Tryz.prog 213 #[.slice A2 n2 c2] u fun e w'=>e= .returned (.int .i64 (j2F r))∧Below u.heap.size u w'):=fun hm=>by
  have hm3:=mayX_iff.1 hm
  have h3:n2≤3:=by rw[←hl2];exact hm3.2.2.1
  exact⟨h3,by rw[←hl2];exact hm3.2.1,fun u hu=>j8V r.outs A2 n2 c2 u hl2 (by omega) (ht.m2.up hu) (fun o ho=>decide_eq_true (hm3.2.2.2.2.2 o ho))⟩
 have HWI:Hid (j19 p (idX r)=false→n2≤3→1≤n2→ ∀u,Below w.heap.size w u→Calls Tryz.prog 215 #[.slice A n c,idv (idX r), .slice A2 n2 c2] u fun e w'=>(∃v,e= .returned v∧w'.ownsRow u.heap.size 137 35 v (j1y p (j18 (idX r) 0 r.outs)).length ((j1y p (j18 (idX r) 0 r.outs)).map coC).flatten)∧Below u.heap.size u w'):=fun hth h3 h1 u hu=>
  j9Z p A n c (idX r) r.outs A2 n2 c2 u hl hn hnc hcm hI hup (CellsIn.up hA hu) hid hth hl2 (by omega) (by omega) ht.o2 (CellsIn.up ht.m2 hu)
 have HMO:Hid (n2≤3→okP (j1y p (j18 (idX r) 0 r.outs))):=fun h3=>j84 hI (j9u hid (fun o ho=>ht.o2 o ho) (by rw[hl2];omega))
 have HML:Hid ((j1y p (j18 (idX r) 0 r.outs)).length=n+n2):=by show _=_;rw[q0x,j5u,hl,hl2,Nat.add_comm]
 have hmr:j9T p r k=if j4z r=false then ([],1)else if j19 p (idX r)then ([],10)else if k<j2F r then ([],8)else if 48<(j1y p (j18 (idX r) 0 r.outs)).length then ([],11)else (j1y p (j18 (idX r) 0 r.outs),0):=rfl
 have E1:Hid (EnvX w ((w.alloc (.cells (txA ⟨r,A1,n1,c1,A2,n2,c2⟩) 77)).alloc (.cells (j0d 32 (idX r)) 26)) [(w.heap.size+1,oc (j0d 32 (idX r)) 26),(w.heap.size,oc (txA ⟨r,A1,n1,c1,A2,n2,c2⟩) 77)]):=(EnvX.start w).two _ _
 rw[HML.out]at hmr
 have HIL:Hid ((idX r).length=32):=hid.1
 clear hl hn hnc hcm hI hup hA hb ht hl2 hid
 generalize j1y p (j18 (idX r) 0 r.outs)=q9 at *
 generalize idX r=id at *
 generalize j9T p r k=mr at *
 have HMR:=hD hmr
 clear hmr
 obtain⟨b1,h1⟩: ∃b1,j4z r=b1:=⟨_,rfl⟩
 obtain⟨b2,h2⟩: ∃b2,j19 p id=b2:=⟨_,rfl⟩
 rw[h1]at HTM HWX HMR
 rw[h2]at HHS HWI HMR
 clear h1 h2
 unfold txV idv at *
 cases b1 with
 |false=>
  have HF:Hid (mr.2=1):=by show _=_;rw[HMR.out];rfl
  go_enter func183,ntmps183
  go_upto_region 1 with (fail)
  generalize (w.alloc (.cells (txA ⟨r,A1,n1,c1,A2,n2,c2⟩) 77)).alloc (.cells (j0d 32 id) 26)=W at *
  refine rgQ [0,1,2,3] [] E1 rfl fun hw=>?_
  refine ql rfl (mT mH) trivial hw ?_
  refine qc rfl func210 (fun u hu=>HTM.out u (EnvX.bel hu)) hw ?_
  refine qw 2 hw ?_
  refine enP fun u3 EX2=>?_
  go_upto_region 2 with (fail)
  refine rgQ [0,1] [] EX2 rfl fun hw=>?_
  refine qw 2 hw ?_
  refine enP fun u6 EX5=>?_
  have HBE:=hD (EnvX.bel EX5.out)
  go_wp2
  go_returns
  exact⟨ApE.mk (k:=1) (.slice none 0 0) HF.out (fun h=>by cases h),HBE.out⟩
 | true=>
  obtain⟨h3,h31,hwx⟩:=HWX.out rfl
  have H3:=hD (And.intro h3 h31)
  have HW2:=hD hwx
  clear HWX h3 h31 hwx
  go_enter func183,ntmps183
  go_upto_region 1 with (fail)
  generalize (w.alloc (.cells (txA ⟨r,A1,n1,c1,A2,n2,c2⟩) 77)).alloc (.cells (j0d 32 id) 26)=W at *
  refine rgQ [0,1,2,3] [] E1 rfl fun hw=>?_
  refine ql rfl (mT mH) trivial hw ?_
  refine qc rfl func210 (fun u hu=>HTM.out u (EnvX.bel hu)) hw ?_
  refine qw 2 hw ?_
  refine enP fun u3 EX2=>?_
  cases b2 with
  |true=>
   have HF:Hid (mr.2=10):=by show _=_;rw[HMR.out];rfl
   go_upto_region 3 with (fail)
   refine rgQ [0,1,2,3] [] EX2 rfl fun hw=>?_
   refine qo rfl hw ?_
   refine qv rfl (fun u hu=>j0a u (j2q hu mH HIL.out) rfl) hw ?_
   refine qc rfl func212 (fun u hu=>HHS.out u (EnvX.bel hu)) hw ?_
   refine qo rfl hw ?_
   refine enP fun u6 EX5=>?_
   go_upto_region 4 with (fail)
   refine rgQ [0,1] [] EX5 rfl fun hw=>?_
   refine qw 2 hw ?_
   refine enP fun u9 EX8=>?_
   have HBE:=hD (EnvX.bel EX8.out)
   go_wp2
   go_returns
   exact⟨ApE.mk (k:=10) (.slice none 0 0) HF.out (fun h=>by cases h),HBE.out⟩
  |false=>
   have HW3:=hD (HWI.out rfl H3.out.1 H3.out.2)
   have HMR2:Hid (mr=if k<j2F r then ([],8)else if 48<n+n2 then ([],11)else (q9,0)):=HMR.out
   clear HWI HMR
   generalize j2F r=wx at *
   go_upto_region 3 with (fail)
   refine rgQ [0,1,2,3] [] EX2 rfl fun hw=>?_
   refine qo rfl hw ?_
   refine qv rfl (fun u hu=>j0a u (j2q hu mH HIL.out) rfl) hw ?_
   refine qc rfl func212 (fun u hu=>HHS.out u (EnvX.bel hu)) hw ?_
   refine qo rfl hw ?_
   refine enP fun u6 EX5=>?_
   by_cases hk:k<wx
   · have C5:Hid (decide (k<wx)=true):=decide_eq_true hk
     have HF:Hid (mr.2=8):=by show _=_;rw[HMR2.out,if_pos hk]
     clear hk
     go_upto_region 5 with (fail)
     refine rgQ [0,1,2,3,4,5] [] EX5 rfl fun hw=>?_
     refine qf rfl hw ?_
     refine ql rfl (mT mH) trivial hw ?_
     refine qc rfl func213 (fun u hu=>HW2.out u (EnvX.bel hu)) hw ?_
     refine qo rfl hw ?_
     refine qv rfl (fun u hu=>j1m u C5.out rfl rfl) hw ?_
     refine qo rfl hw ?_
     refine enP fun u9 EX8=>?_
     go_upto_region 6 with (fail)
     refine rgQ [0,1] [] EX8 rfl fun hw=>?_
     refine qw 2 hw ?_
     refine enP fun u12 EX11=>?_
     have HBE:=hD (EnvX.bel EX11.out)
     go_wp2
     go_returns
     exact⟨ApE.mk (k:=8) (.slice none 0 0) HF.out (fun h=>by cases h),HBE.out⟩
   have C5:Hid (decide (k<wx)=false):=decide_eq_false hk
   have HMR3:Hid (mr=if 48<n+n2 then ([],11)else (q9,0)):=by show _=_;rw[HMR2.out,if_neg hk]
   have HFU:Hid (∀u,Calls Tryz.prog 214 #[.slice A n c, .slice A2 n2 c2] u fun e w'=>e= .returned (.bool (decide (48<n+n2)))∧Below u.heap.size u w'):=fun u=>q0H A n c A2 n2 c2 u (by have:=HN1.out;omega) (by have:=H3.out;omega)
   clear hk HMR2
   go_upto_region 5 with (fail)
   refine rgQ [0,1,2,3,4,5] [] EX5 rfl fun hw=>?_
   refine qf rfl hw ?_
   refine ql rfl (mT mH) trivial hw ?_
   refine qc rfl func213 (fun u hu=>HW2.out u (EnvX.bel hu)) hw ?_
   refine qo rfl hw ?_
   refine qv rfl (fun u hu=>j1m u C5.out rfl rfl) hw ?_
   refine qo rfl hw ?_
   refine enP fun u9 EX8=>?_
   by_cases hf:48<n+n2
   · rw[decide_eq_true hf]at HFU
     have HF:Hid (mr.2=11):=by show _=_;rw[HMR3.out,if_pos hf]
     clear hf
     go_upto_region 7 with (fail)
     refine rgQ [0,1,2,3,4] [] EX8 rfl fun hw=>?_
     refine qw 2 hw ?_
     refine ql rfl (mT mH) trivial hw ?_
     refine qc rfl func214 (fun u hu=>HFU.out u) hw ?_
     refine qo rfl hw ?_
     refine enP fun u12 EX11=>?_
     go_upto_region 8 with (fail)
     refine rgQ [0,1] [] EX11 rfl fun hw=>?_
     refine qw 2 hw ?_
     refine enP fun u15 EX14=>?_
     have HBE:=hD (EnvX.bel EX14.out)
     go_wp2
     go_returns
     exact⟨ApE.mk (k:=11) (.slice none 0 0) HF.out (fun h=>by cases h),HBE.out⟩
   · rw[decide_eq_false hf]at HFU
     have HF:Hid (mr.2=0):=by show _=_;rw[HMR3.out,if_neg hf]
     have HQ:Hid (mr.1=q9):=by show _=_;rw[HMR3.out,if_neg hf]
     clear hf HMR3
     go_upto_region 7 with (fail)
     refine rgQ [0,1,2,3,4] [] EX8 rfl fun hw=>?_
     refine qw 2 hw ?_
     refine ql rfl (mT mH) trivial hw ?_
     refine qc rfl func214 (fun u hu=>HFU.out u) hw ?_
     refine qo rfl hw ?_
     refine enP fun u12 EX11=>?_
     go_upto_region 9 with (fail)
     refine rgQ [0,1,2,3] [4,5,6] EX11 rfl fun hw=>?_
     refine qo rfl hw ?_
     refine qv rfl (fun u hu=>j0a u (j2q hu mH HIL.out) rfl) hw ?_
     refine qf rfl hw ?_
     refine ql rfl (mT mH) trivial hw ?_
     refine j0b<|qr rfl func215 (fun u hu=>j0i (HW3.out u (EnvX.bel hu))) ?_
     rintro x9 N9 hF hf he14
     have HF9:=hD (And.intro hF hf)
     clear hF
     clear hf
     refine phE [5,6] [] he14 fun hw=>?_
     refine qw 2 hw ?_
     refine enP fun u17 EX16=>?_
     have HOW:=hD (HF9.out.1.own (w:=u17) (B:=w.heap.size) (FreshR.lenOf HF9.out.1) (fun y hy=>⟨(HF9.out.2 y hy).1,EnvX.box EX16.out _ _ (mL hy)⟩))
     have HBE:=hD (EnvX.bel EX16.out)
     go_wp2
     go_returns
     exact⟨ApE.mk (k:=0) x9 HF.out (fun _=>by rw[HQ.out];exact HOW.out),HBE.out⟩
theorem q4t(p:List CoinR)(A:Option Addr)(n c:Nat)(l:List TxM)(A':Option Addr)(n' c':Nat)(w:World)(hl:p.length=n)(hnc:n≤c)(hcm:c≤maxLen)(hI:okP p)(hA:CoinsIn w w.heap.size A p)(hl':l.length=n')(hnc':n'≤c')(hcm':c'≤maxLen)(hA':TxsIn w A' l)(htt:Tables w)(k1:j3h p=false):
  Calls Tryz.prog 132 #[.slice A n c, .slice A' n' c'] w fun e w'=>ApE (j0t p (rsT l)) w' w.heap.size e∧Below w.heap.size w w':=by
 have HMY:Hid (Rb w 181 #[.slice A n c] (.bool (j3h p))):=fun u hu=>j3S p A n c u hl hnc hcm hI (CellsIn.up hA hu)
 have HM63:Hid (n'<9223372036854775808):=by show _<_;unfold maxLen at hcm';omega
 have E1:Hid (EnvX w w []):=EnvX.start w
 have HF:Hid ((j0t p (rsT l)).2=1):=by show _=_;rw[q0o k1]
 rw[k1]at HMY
 clear k1 hl hnc hcm hI hA hl' hnc' hcm' hA' htt
 go_enter func132,ntmps132
 go_upto_region 1 with (fail)
 refine rgQ [0,1,2] [] E1 rfl fun hw=>?_
 refine qo rfl hw ?_
 refine qc rfl func181 (fun u hu=>HMY.out u (EnvX.bel hu)) hw ?_
 refine qo rfl hw ?_
 refine enP fun u3 EX2=>?_
 go_upto_region 2 with (fail)
 refine rgQ [0,1] [] EX2 rfl fun hw=>?_
 refine qw 2 hw ?_
 refine enP fun u6 EX5=>?_
 have HBE:=hD (EnvX.bel EX5.out)
 go_wp2
 go_returns
 exact⟨ApE.mk (k:=1) (.slice none 0 0) HF.out (fun h=>by cases h),HBE.out⟩
theorem q1V(p:List CoinR)(A:Option Addr)(n c:Nat)(l:List TxM)(A':Option Addr)(n' c':Nat)(w:World)(hl:p.length=n)(hnc:n≤c)(hcm:c≤maxLen)(hI:okP p)(hA:CoinsIn w w.heap.size A p)(hl':l.length=n')(hnc':n'≤c')(hcm':c'≤maxLen)(hA':TxsIn w A' l)(htt:Tables w)(k1:j3h p=true)(k2:4<n'):
  Calls Tryz.prog 132 #[.slice A n c, .slice A' n' c'] w fun e w'=>ApE (j0t p (rsT l)) w' w.heap.size e∧Below w.heap.size w w':=by
 have HMY:Hid (Rb w 181 #[.slice A n c] (.bool (j3h p))):=fun u hu=>j3S p A n c u hl hnc hcm hI (CellsIn.up hA hu)
 have HM63:Hid (n'<9223372036854775808):=by show _<_;unfold maxLen at hcm';omega
 have E1:Hid (EnvX w w []):=EnvX.start w
 have HF:Hid ((j0t p (rsT l)).2=3):=by show _=_;rw[q5r k1 (by unfold rsT;rw[lM,hl'];exact k2)]
 have D4:Hid (decide ((4:Int)<(n':Int))=true):=decide_eq_true (by omega)
 rw[k1]at HMY
 clear k1 k2 hl hnc hcm hI hA hl' hnc' hcm' hA' htt
 go_enter func132,ntmps132
 go_upto_region 1 with (fail)
 refine rgQ [0,1,2] [] E1 rfl fun hw=>?_
 refine qo rfl hw ?_
 refine qc rfl func181 (fun u hu=>HMY.out u (EnvX.bel hu)) hw ?_
 refine qo rfl hw ?_
 refine enP fun u3 EX2=>?_
 go_upto_region 3 with (fail)
 refine rgQ [0,1,2] [] EX2 rfl fun hw=>?_
 refine qo rfl hw ?_
 refine qv rfl (fun u hu=>j0l underlying23 HM63.out u rfl) hw ?_
 refine qv rfl (fun u hu=>j1m u D4.out rfl rfl) hw ?_
 refine enP fun u6 EX5=>?_
 go_upto_region 4 with (fail)
 refine rgQ [0,1] [] EX5 rfl fun hw=>?_
 refine qw 2 hw ?_
 refine enP fun u9 EX8=>?_
 have HBE:=hD (EnvX.bel EX8.out)
 go_wp2
 go_returns
 exact⟨ApE.mk (k:=3) (.slice none 0 0) HF.out (fun h=>by cases h),HBE.out⟩
theorem j9V(p:List CoinR)(A:Option Addr)(n c:Nat)(l:List TxM)(A':Option Addr)(n' c':Nat)(w:World)(hl:p.length=n)(hnc:n≤c)(hcm:c≤maxLen)(hI:okP p)(hA:CoinsIn w w.heap.size A p)(hl':l.length=n')(hnc':n'≤c')(hcm':c'≤maxLen)(hA':TxsIn w A' l)(htt:Tables w)(k1:j3h p=true)(k2: ¬4<n')(k3:n'=0):
  Calls Tryz.prog 132 #[.slice A n c, .slice A' n' c'] w fun e w'=>ApE (j0t p (rsT l)) w' w.heap.size e∧Below w.heap.size w w':=by
 have HMY:Hid (Rb w 181 #[.slice A n c] (.bool (j3h p))):=fun u hu=>j3S p A n c u hl hnc hcm hI (CellsIn.up hA hu)
 have HM63:Hid (n'<9223372036854775808):=by show _<_;unfold maxLen at hcm';omega
 have E1:Hid (EnvX w w []):=EnvX.start w
 have D4:Hid (decide ((4:Int)<(n':Int))=false):=decide_eq_false (by omega)
 have HK:=hD k1
 have HK2:Hid (n'≤4):=by show _≤_;omega
 have HRL:Hid ((rsT l).length=n'):=by show _=_;unfold rsT;rw[lM,hl']
 have HTT:=hD htt
 have HL':=hD hl'
 have HTI:=hD hA'
 have HPP:=hD hI
 have HL:=hD hl
 have HCLN:Hid (∀u,Below w.heap.size w u→Calls Tryz.prog 131 #[.slice A n c] u fun e w'=>(∃v,e= .returned v∧w'.ownsRow u.heap.size 137 35 v n (p.map coC).flatten)∧Below u.heap.size u w'):=fun u hu=>j3n p A n c u hl (by have:=(mayP_iff.1 k1).1;omega) hI (CellsIn.up hA hu)
 rw[k1]at HMY
 have HLO:Hid (j2P (rsT l)=false):=by
  have h:rsT l=[]:=List.eq_nil_of_length_eq_zero (by rw[HRL.out,k3])
  show _=_
  rw[h]
  rfl
 have C5:Hid (decide ((0:Int)<(n':Int))=false):=decide_eq_false (by omega)
 have HTO:Hid (TxsIn w A' l):=hA'
 have HLN:Hid ((l).length=n'):=by show _=_;exact hl'
 have HNO:Hid (n'≤4∧n'<9223372036854775808):=⟨by omega,by omega⟩
 have HOT:Hid ((if j2P (rsT l)then (rsT l).tail else rsT l)=rsT l):=by
  show _=_
  rw[HLO.out]
  rfl
 clear k1 k2 k3 hl hnc hcm hI hA hl' hnc' hcm' hA' htt
 go_enter func132,ntmps132
 go_upto_region 1 with (fail)
 refine rgQ [0,1,2] [] E1 rfl fun hw=>?_
 refine qo rfl hw ?_
 refine qc rfl func181 (fun u hu=>HMY.out u (EnvX.bel hu)) hw ?_
 refine qo rfl hw ?_
 refine enP fun u3 EX2=>?_
 go_upto_region 3 with (fail)
 refine rgQ [0,1,2] [] EX2 rfl fun hw=>?_
 refine qo rfl hw ?_
 refine qv rfl (fun u hu=>j0l underlying23 HM63.out u rfl) hw ?_
 refine qv rfl (fun u hu=>j1m u D4.out rfl rfl) hw ?_
 refine enP fun u6 EX5=>?_
 go_upto_region 5 with (fail)
 refine rgQ [0,1,2,3,4,5,6,7,8,9,10,11,12,13] [] EX5 rfl fun hw=>?_
 refine qo rfl hw ?_
 refine qv rfl (fun u hu=>j0l underlying23 HM63.out u rfl) hw ?_
 refine qv rfl (fun u hu=>j1m u C5.out rfl rfl) hw ?_
 refine qw 11 hw ?_
 refine enP fun u9 EX8=>?_
 go_upto_region 6 with (fail)
 refine rgQ [0] [] EX8 rfl fun hw=>?_
 refine qo rfl hw ?_
 refine enP fun u12 EX11=>?_
 go_upto_region 8 with (fail)
 refine rgQ [0] [1,2,3] EX11 rfl fun hw=>?_
 refine qo rfl hw ?_
 refine j0b<|qr rfl func131 (fun u hu=>j0i (HCLN.out u (EnvX.bel hu))) ?_
 rintro x0 N0 hF hf he14
 have HF0:=hD (And.intro hF hf)
 clear hF
 clear hf
 change j1E _ _ _ _ _ _ (N0++[])
 rw[List.append_nil]at he14 ⊢
 refine phE [2,3] [] he14 fun hw=>?_
 refine qw 2 hw ?_
 refine enP fun u17 EX16=>?_
 go_upto_region 9 with (fail)
 refine rgQ [0,1,2] [] EX16 rfl fun hw=>?_
 refine qo rfl hw ?_
 refine qv rfl (fun u hu=>j0l underlying23 HNO.out.2 u rfl) hw ?_
 refine qo rfl hw ?_
 refine enP fun u20 EX19=>?_
 have HINV:Hid (j3U p 0 ((rsT l).take 0)= .ok (p,0)∧ ∃N,FreshR 137 35 p.length (p.map coC).flatten x0 N∧j01 w N []∧EnvX w u20 N):=by
  refine⟨rfl,N0,?_,HF0.out.2,EX19.out⟩
  rw[HL.out]
  exact HF0.out.1
 clear EX19 E1 HF0
 go_upto_region 10 with (fail)
 go_loopw [8,9,40] (fun nv mv iv u=> ∃(i:Nat)(q:List CoinR)(m:Int),i≤n'∧iv= .int .i64 (i:Int)∧mv= .int .i64 (50+m)∧Hid (j3U p 0 ((rsT l).take i)= .ok (q,m)∧ ∃N,FreshR 137 35 q.length (q.map coC).flatten nv N∧j01 w N []∧EnvX w u N)) (fun _ _ iv _=>n'- (intOf iv).toNat)
 case atStart=>exact⟨0,p,0,by omega,rfl,rfl,HINV⟩
 case round=>
  obtain⟨i,q,m,hi,rfl,rfl,hinv⟩:=hrel
  obtain⟨hrun,N,hF,hfr,hE⟩:=hinv.out
  have EK:=hD hE
  have HRUN:=hD hrun
  have HRB:=hD (j3m HK.out HPP.out hrun)
  have HF:=hD hF
  have HFR:=hD hfr
  obtain⟨A3,c3,rfl,hc1,hc2⟩:=FreshR.formC HF.out
  have HC3:=hD (And.intro hc1 hc2)
  have HCO:Hid (∀u M,EnvX w u M→(∀y∈N,y∈M)→CoinsIn u u.heap.size A3 q):=fun u M hu hm=>j2k (HF.out.own (w:=u) (B:=0) (FreshR.lenOf HF.out) (fun y hy=>⟨Nat.zero_le _,hu.box _ _ (hm y hy)⟩))
  clear hinv HINV hrun hF hfr hE hc1 hc2
  by_cases hlt:i<n'
  · have C10:Hid (decide ((i:Int)<((n':Nat):Int))=true):=decide_eq_true (by omega)
    have HI:Hid (i<n'):=hlt
    have hil:i<(l).length:=by rw[HLN.out];exact hlt
    have HIL:Hid (i<(rsT l).length):=by show _<_;unfold rsT;rw[lM];exact hil
    obtain⟨ad,hAO,-,hld⟩:=HTO.out.loads hil
    have HAO:Hid (A'=some ad):=hAO
    have HLD:=hD hld
    have HTX:Hid (TxOk w ((l).getD i j0A)):=HTO.out.get hil
    have hrg:(rsT l).getD i j8a=((l).getD i j0A).r:=by
     unfold rsT
     rw[gD,List.getElem?_map,gD,gE hil]
     rfl
    obtain⟨t,ht⟩: ∃t,(l).getD i j0A=t:=⟨_,rfl⟩
    rw[ht]at HLD HTX hrg
    have HRG:=hD hrg
    have HSD:Hid (∀u M,EnvX w u M→(∀y∈N,y∈M)→Calls Tryz.prog 182 #[.slice A3 q.length c3,txV t] u fun e w'=>SpE q t.r w' u.heap.size e∧Below u.heap.size u w'):=fun u M hu hm=>by
     obtain⟨r,B1,m1,d1,B2,m2,d2⟩:=t
     exact j6f q A3 q.length c3 r B1 m1 d1 B2 m2 d2 u rfl HC3.out.1 HC3.out.2 HRB.out.1 (HCO.out u M hu hm) (HTX.out.up (EnvX.bel hu)) (HTT.out.below (EnvX.bel hu))
    have HSN:Hid (∀x N,SpN q t.r x N→ ∃v,x= .tuple #[v, .int .i64 (j0x q t.r).2.1, .int .i64 ((j0x q t.r).2.2:Int)]∧((j0x q t.r).2.2=0→FreshR 137 35 (j0x q t.r).1.length (((j0x q t.r).1).map coC).flatten v N)):=fun x N h=>h
    rcases hs:j0x q t.r with ⟨q2,m2,e2⟩
    rw[hs]at HSN
    simp only at HSN
    have HS:=hD hs
    clear hlt hil hAO hld hrg ht hs
    go_upto_region 10 with (fail)
    refine rgQ [0] [] EK rfl fun hw=>?_
    refine qv rfl (fun u hu=>j0o u C10.out rfl rfl) hw ?_
    refine enP fun u23 EX22=>?_
    go_upto_region 11 with (fail)
    refine rgQ [0,1] [2,3] EX22 rfl fun hw=>?_
    refine qv (v:= .pointer (some (ad.add (i*2)))) rfl (fun u hu=>j7k (i:=i) underlying23 aggTx.size HI.out HAO.out u rfl rfl) hw ?_
    refine qv rfl (fun u hu=>j0a u (HLD.out u (nl hu)).1 rfl) hw ?_
    refine j0b<|qn rfl (j6G _) fun gx HG6 he25=>?_
    change j1E _ _ _ _ _ _ ((gx,oc (txA j0A) 77)::N)
    refine(sh rfl HG6 (j5i _ (j0Y _)) ((j0Y _).trans (j0Y _).symm) (j3I _) ?_)
    refine fun _=>enL fun u28 EX27=>?_
    rcases e2 with _|e3
    case succ=>
     have C13:Hid (decide (((e3+1:Nat):Int)≠0)=true):=decide_eq_true (by omega)
     have HF2:Hid ((j0t p (rsT l)).2=e3+1):=by
      have h1:=j7b j8a HIL.out HRUN.out (by rw[HRG.out];exact HS.out)
      show _=_
      rw[j7D HK.out (by rw[HRL.out];have:=HK2.out;omega) (by rw[HOT.out];exact h1)]
     go_upto_region 12 with (fail)
     refine rgQ [0,1] [2,3,4,5,6,7,8,9] EX27 rfl fun hw=>?_
     refine qo rfl hw ?_
     refine ql rfl mH trivial hw ?_
     refine j0b<|qr rfl func182 (fun u hu=>(j2j (HSD.out u _ hu (fun y hy=>mT hy))).mono (fun _ _⟨x,N,k1,k2,k3⟩=>⟨x,N,k1,HSN.out x N k2,k3⟩)) ?_
     rintro _ N9 ⟨v9,rfl,hF⟩ hf he30
     have HF9:=hD (And.intro hF hf)
     clear hF
     clear hf
     refine phE [3,4,5,6,7,8,9] [] he30 fun hw=>?_
     refine qw 7 hw ?_
     refine enP fun u33 EX32=>?_
     go_upto_region 13 with (fail)
     refine rgQ [0,1] [] EX32 rfl fun hw=>?_
     refine qo rfl hw ?_
     refine qv rfl (fun u hu=>j1i u C13.out rfl rfl) hw ?_
     refine enP fun u36 EX35=>?_
     go_upto_region 14 with (fail)
     refine rgQ [0,1,2] [] EX35 rfl fun hw=>?_
     refine qw 3 hw ?_
     refine enP fun u39 EX38=>?_
     have HBE:=hD (EnvX.bel EX38.out)
     go_wp2
     go_returns
     exact⟨ApE.mk (k:=e3+1) (.slice none 0 0) HF2.out (fun h=>absurd h (Nat.succ_ne_zero _)),HBE.out⟩
    have C13:Hid (decide (((0:Nat):Int)≠0)=false):=decide_eq_false (by omega)
    have hstp:=j7S j8a HIL.out HRUN.out (by rw[HRG.out];exact HS.out)
    have HSTP:=hD hstp
    have hrb2:=j3m HK.out HPP.out hstp
    have HAD:Hid (IntKind.i64.wrap (50+m+m2)=50+(m+m2)):=by show _=_;rw[j6R (by have:=hrb2.2.2.1;have:=hrb2.2.2.2.1;omega)];omega
    clear hstp hrb2
    go_upto_region 12 with (fail)
    refine rgQ [0,1] [2,3,4,5,6,7,8,9] EX27 rfl fun hw=>?_
    refine qo rfl hw ?_
    refine ql rfl mH trivial hw ?_
    refine j0b<|qr rfl func182 (fun u hu=>(j2j (HSD.out u _ hu (fun y hy=>mT hy))).mono (fun _ _⟨x,N,k1,k2,k3⟩=>⟨x,N,k1,HSN.out x N k2,k3⟩)) ?_
    rintro _ N9 ⟨v9,rfl,hF⟩ hf he30
    have HF9:=hD (And.intro hF hf)
    clear hF
    clear hf
    refine phE [3,4,5,6,7,8,9] [] he30 fun hw=>?_
    refine qw 7 hw ?_
    refine enP fun u33 EX32=>?_
    go_upto_region 13 with (fail)
    refine rgQ [0,1] [] EX32 rfl fun hw=>?_
    refine qo rfl hw ?_
    refine qv rfl (fun u hu=>j1i u C13.out rfl rfl) hw ?_
    refine enP fun u36 EX35=>?_
    go_upto_region 15 with (fail)
    refine rgQ [0,1,2,3,4,5] [] EX35 rfl fun hw=>?_
    refine qw 3 hw ?_
    refine qv rfl (fun u hu=>j3H u HAD.out rfl rfl) hw ?_
    refine qw 2 hw ?_
    refine enP fun u39 EX38=>?_
    have HNX:Hid (j3U p 0 ((rsT l).take (i+1))= .ok (q2,(m+m2))∧ ∃N,FreshR 137 35 q2.length (q2.map coC).flatten v9 N∧j01 w N []∧EnvX w u39 N):=⟨HSTP.out,N9,HF9.out.1 rfl,fun y hy=>⟨(HF9.out.2 y hy).1,fun z hz=>by cases hz⟩,EnvX.sub EX38.out (fun y hy=>mL hy)⟩
    have hii:=HI.out
    have hn:=HNO.out.1
    go_wp2
    go_roundw
    case rel=>exact⟨i+1,q2,m+m2,by omega,by go_num,rfl,HNX⟩
    case measure=>simp[intOf];omega
  · have hino:i=n':=by omega
    have C10:Hid (decide ((i:Int)<((n':Nat):Int))=false):=decide_eq_false (by omega)
    have HRA:Hid (j3U p 0 (if j2P (rsT l)then (rsT l).tail else rsT l)= .ok (q,m)):=by
     have h:=HRUN.out
     show _=_
     rw[HOT.out]
     rwa[tL (by unfold rsT;rw[lM,HLN.out,hino];exact Nat.le_refl _)]at h
    clear hlt hino
    go_upto_region 10 with (fail)
    refine rgQ [0] [] EK rfl fun hw=>?_
    refine qv rfl (fun u hu=>j0o u C10.out rfl rfl) hw ?_
    refine enP fun u503 EX502=>?_
    go_upto_region 17 with (fail)
    refine rgQ [0,1] [] EX502 rfl fun hw=>?_
    refine qw 2 hw ?_
    refine enP fun u506 EX505=>?_
    have HAP:Hid (j0t p (rsT l)=(q,0)):=q0v HK.out (by rw[HRL.out];have:=HK2.out;omega) HRA.out HLO.out
    have HF2:Hid ((j0t p (rsT l)).2=0):=by show _=_;rw[HAP.out]
    go_upto_region 18 with (fail)
    refine rgQ [0,1,2] [] EX505 rfl fun hw=>?_
    refine qw 3 hw ?_
    refine enP fun u509 EX508=>?_
    have HOW:=hD (HF.out.own (w:=u509) (B:=w.heap.size) (FreshR.lenOf HF.out) (fun y hy=>⟨(HFR.out y hy).1,EnvX.box EX508.out _ _ hy⟩))
    have HBE:=hD (EnvX.bel EX508.out)
    go_wp2
    go_returns
    exact⟨ApE.mk (k:=0) (.slice A3 q.length c3) HF2.out (fun _=>by rw[HAP.out];exact HOW.out),HBE.out⟩
theorem q0K(p:List CoinR)(A:Option Addr)(n c:Nat)(l:List TxM)(A':Option Addr)(n' c':Nat)(w:World)(hl:p.length=n)(hnc:n≤c)(hcm:c≤maxLen)(hI:okP p)(hA:CoinsIn w w.heap.size A p)(hl':l.length=n')(hnc':n'≤c')(hcm':c'≤maxLen)(hA':TxsIn w A' l)(htt:Tables w)(k1:j3h p=true)(k2: ¬4<n')(k3:0<n')(k4:j2P (rsT l)=false):
  Calls Tryz.prog 132 #[.slice A n c, .slice A' n' c'] w fun e w'=>ApE (j0t p (rsT l)) w' w.heap.size e∧Below w.heap.size w w':=by
 have HMY:Hid (Rb w 181 #[.slice A n c] (.bool (j3h p))):=fun u hu=>j3S p A n c u hl hnc hcm hI (CellsIn.up hA hu)
 have HM63:Hid (n'<9223372036854775808):=by show _<_;unfold maxLen at hcm';omega
 have E1:Hid (EnvX w w []):=EnvX.start w
 have D4:Hid (decide ((4:Int)<(n':Int))=false):=decide_eq_false (by omega)
 have HK:=hD k1
 have HK2:Hid (n'≤4):=by show _≤_;omega
 have HRL:Hid ((rsT l).length=n'):=by show _=_;unfold rsT;rw[lM,hl']
 have HTT:=hD htt
 have HL':=hD hl'
 have HTI:=hD hA'
 have HPP:=hD hI
 have HL:=hD hl
 have HCLN:Hid (∀u,Below w.heap.size w u→Calls Tryz.prog 131 #[.slice A n c] u fun e w'=>(∃v,e= .returned v∧w'.ownsRow u.heap.size 137 35 v n (p.map coC).flatten)∧Below u.heap.size u w'):=fun u hu=>j3n p A n c u hl (by have:=(mayP_iff.1 k1).1;omega) hI (CellsIn.up hA hu)
 rw[k1]at HMY
 have HLO:Hid (j2P (rsT l)=false):=k4
 have C5:Hid (decide ((0:Int)<(n':Int))=true):=decide_eq_true (by omega)
 have HI0:Hid (0<n'):=k3
 obtain⟨ad0,hA0,-,hld0⟩:=hA'.loads (k:=0) (by rw[hl'];exact k3)
 have hA0':A'=some ad0:=hA0
 subst hA0'
 have HLD0:=hD hld0
 have HL0:Hid (∀u,EnvX w u []→(loadVar 74 ((ad0.add (0*2)).add 0)).run Tryz.prog u= .ok (.slice (l.getD 0 j0A).A1 (l.getD 0 j0A).n1 (l.getD 0 j0A).c1) u):=fun u hu=>by
  have h:=(hld0 u hu).2.1
  rwa[show ((ad0.add (0*2)).add 0)=ad0.add (0*2)by unfold Addr.add;rfl]
 have ht0:TxOk w (l.getD 0 j0A):=hA'.get (i:=0) (by rw[hl'];exact k3)
 have HT0:=hD ht0
 have hrg0:(rsT l).getD 0 j8a=(l.getD 0 j0A).r:=by
  unfold rsT
  rw[gD,List.getElem?_map,gD,gE (show 0<l.length by omega)]
  rfl
 have HRG0:=hD hrg0
 have HN0:Hid ((l.getD 0 j0A).n1<9223372036854775808):=ht0.n63.1
 have C9:Hid (decide (((l.getD 0 j0A).n1:Int)=0)=false):=by
  have hlg:=q3Q (l:=rsT l) j8a (by rw[HRL.out];exact k3)
  rw[hrg0,k4]at hlg
  have h1:=ht0.l1
  show _=_
  rw[hlg]
  refine decide_eq_decide.2 ⟨fun h=>List.eq_nil_of_length_eq_zero (by rw[h1];omega),fun h=>?_⟩
  have h2:(l.getD 0 j0A).n1=0:=by rw[←h1,h];rfl
  omega
 generalize ht0g:l.getD 0 j0A=tm0 at *
 have HTO:Hid (TxsIn w (some ad0) l):=hA'
 have HLN:Hid ((l).length=n'):=by show _=_;exact hl'
 have HNO:Hid (n'≤4∧n'<9223372036854775808):=⟨by omega,by omega⟩
 have HOT:Hid ((if j2P (rsT l)then (rsT l).tail else rsT l)=rsT l):=by
  show _=_
  rw[HLO.out]
  rfl
 clear k1 k2 k3 k4 hl hnc hcm hI hA hl' hnc' hcm' hA' htt hA0 hld0 ht0 hrg0 ht0g
 go_enter func132,ntmps132
 go_upto_region 1 with (fail)
 refine rgQ [0,1,2] [] E1 rfl fun hw=>?_
 refine qo rfl hw ?_
 refine qc rfl func181 (fun u hu=>HMY.out u (EnvX.bel hu)) hw ?_
 refine qo rfl hw ?_
 refine enP fun u3 EX2=>?_
 go_upto_region 3 with (fail)
 refine rgQ [0,1,2] [] EX2 rfl fun hw=>?_
 refine qo rfl hw ?_
 refine qv rfl (fun u hu=>j0l underlying23 HM63.out u rfl) hw ?_
 refine qv rfl (fun u hu=>j1m u D4.out rfl rfl) hw ?_
 refine enP fun u6 EX5=>?_
 go_upto_region 5 with (fail)
 refine rgQ [0,1,2,3,4,5,6,7,8,9,10,11,12,13] [] EX5 rfl fun hw=>?_
 refine qo rfl hw ?_
 refine qv rfl (fun u hu=>j0l underlying23 HM63.out u rfl) hw ?_
 refine qv rfl (fun u hu=>j1m u C5.out rfl rfl) hw ?_
 refine qw 2 hw ?_
 refine qv rfl (fun u hu=>j0h underlying23 aggTx.size HI0.out u rfl rfl) hw ?_
 refine qv (v:= .pointer (some ((ad0.add (0*2)).add 0))) rfl (fun u hu=>j6p (k:=0) (off:=0) rfl u rfl) hw ?_
 refine qv rfl (fun u hu=>j0a u (HL0.out u (nl hu)) rfl) hw ?_
 refine qv rfl (fun u hu=>j0l underlying74 HN0.out u rfl) hw ?_
 refine qv rfl (fun u hu=>j1C u C9.out rfl rfl) hw ?_
 refine qw 4 hw ?_
 refine enP fun u9 EX8=>?_
 go_upto_region 6 with (fail)
 refine rgQ [0] [] EX8 rfl fun hw=>?_
 refine qo rfl hw ?_
 refine enP fun u12 EX11=>?_
 go_upto_region 8 with (fail)
 refine rgQ [0] [1,2,3] EX11 rfl fun hw=>?_
 refine qo rfl hw ?_
 refine j0b<|qr rfl func131 (fun u hu=>j0i (HCLN.out u (EnvX.bel hu))) ?_
 rintro x0 N0 hF hf he14
 have HF0:=hD (And.intro hF hf)
 clear hF
 clear hf
 change j1E _ _ _ _ _ _ (N0++[])
 rw[List.append_nil]at he14 ⊢
 refine phE [2,3] [] he14 fun hw=>?_
 refine qw 2 hw ?_
 refine enP fun u17 EX16=>?_
 go_upto_region 9 with (fail)
 refine rgQ [0,1,2] [] EX16 rfl fun hw=>?_
 refine qo rfl hw ?_
 refine qv rfl (fun u hu=>j0l underlying23 HNO.out.2 u rfl) hw ?_
 refine qo rfl hw ?_
 refine enP fun u20 EX19=>?_
 have HINV:Hid (j3U p 0 ((rsT l).take 0)= .ok (p,0)∧ ∃N,FreshR 137 35 p.length (p.map coC).flatten x0 N∧j01 w N []∧EnvX w u20 N):=by
  refine⟨rfl,N0,?_,HF0.out.2,EX19.out⟩
  rw[HL.out]
  exact HF0.out.1
 clear EX19 E1 HF0
 go_upto_region 10 with (fail)
 go_loopw [8,9,40] (fun nv mv iv u=> ∃(i:Nat)(q:List CoinR)(m:Int),i≤n'∧iv= .int .i64 (i:Int)∧mv= .int .i64 (50+m)∧Hid (j3U p 0 ((rsT l).take i)= .ok (q,m)∧ ∃N,FreshR 137 35 q.length (q.map coC).flatten nv N∧j01 w N []∧EnvX w u N)) (fun _ _ iv _=>n'- (intOf iv).toNat)
 case atStart=>exact⟨0,p,0,by omega,rfl,rfl,HINV⟩
 case round=>
  obtain⟨i,q,m,hi,rfl,rfl,hinv⟩:=hrel
  obtain⟨hrun,N,hF,hfr,hE⟩:=hinv.out
  have EK:=hD hE
  have HRUN:=hD hrun
  have HRB:=hD (j3m HK.out HPP.out hrun)
  have HF:=hD hF
  have HFR:=hD hfr
  obtain⟨A3,c3,rfl,hc1,hc2⟩:=FreshR.formC HF.out
  have HC3:=hD (And.intro hc1 hc2)
  have HCO:Hid (∀u M,EnvX w u M→(∀y∈N,y∈M)→CoinsIn u u.heap.size A3 q):=fun u M hu hm=>j2k (HF.out.own (w:=u) (B:=0) (FreshR.lenOf HF.out) (fun y hy=>⟨Nat.zero_le _,hu.box _ _ (hm y hy)⟩))
  clear hinv HINV hrun hF hfr hE hc1 hc2
  by_cases hlt:i<n'
  · have C10:Hid (decide ((i:Int)<((n':Nat):Int))=true):=decide_eq_true (by omega)
    have HI:Hid (i<n'):=hlt
    have hil:i<(l).length:=by rw[HLN.out];exact hlt
    have HIL:Hid (i<(rsT l).length):=by show _<_;unfold rsT;rw[lM];exact hil
    obtain⟨ad,hAO,-,hld⟩:=HTO.out.loads hil
    have HAO:Hid ((some ad0)=some ad):=hAO
    have HLD:=hD hld
    have HTX:Hid (TxOk w ((l).getD i j0A)):=HTO.out.get hil
    have hrg:(rsT l).getD i j8a=((l).getD i j0A).r:=by
     unfold rsT
     rw[gD,List.getElem?_map,gD,gE hil]
     rfl
    obtain⟨t,ht⟩: ∃t,(l).getD i j0A=t:=⟨_,rfl⟩
    rw[ht]at HLD HTX hrg
    have HRG:=hD hrg
    have HSD:Hid (∀u M,EnvX w u M→(∀y∈N,y∈M)→Calls Tryz.prog 182 #[.slice A3 q.length c3,txV t] u fun e w'=>SpE q t.r w' u.heap.size e∧Below u.heap.size u w'):=fun u M hu hm=>by
     obtain⟨r,B1,m1,d1,B2,m2,d2⟩:=t
     exact j6f q A3 q.length c3 r B1 m1 d1 B2 m2 d2 u rfl HC3.out.1 HC3.out.2 HRB.out.1 (HCO.out u M hu hm) (HTX.out.up (EnvX.bel hu)) (HTT.out.below (EnvX.bel hu))
    have HSN:Hid (∀x N,SpN q t.r x N→ ∃v,x= .tuple #[v, .int .i64 (j0x q t.r).2.1, .int .i64 ((j0x q t.r).2.2:Int)]∧((j0x q t.r).2.2=0→FreshR 137 35 (j0x q t.r).1.length (((j0x q t.r).1).map coC).flatten v N)):=fun x N h=>h
    rcases hs:j0x q t.r with ⟨q2,m2,e2⟩
    rw[hs]at HSN
    simp only at HSN
    have HS:=hD hs
    clear hlt hil hAO hld hrg ht hs
    go_upto_region 10 with (fail)
    refine rgQ [0] [] EK rfl fun hw=>?_
    refine qv rfl (fun u hu=>j0o u C10.out rfl rfl) hw ?_
    refine enP fun u23 EX22=>?_
    go_upto_region 11 with (fail)
    refine rgQ [0,1] [2,3] EX22 rfl fun hw=>?_
    refine qv (v:= .pointer (some (ad.add (i*2)))) rfl (fun u hu=>j7k (i:=i) underlying23 aggTx.size HI.out HAO.out u rfl rfl) hw ?_
    refine qv rfl (fun u hu=>j0a u (HLD.out u (nl hu)).1 rfl) hw ?_
    refine j0b<|qn rfl (j6G _) fun gx HG6 he25=>?_
    change j1E _ _ _ _ _ _ ((gx,oc (txA j0A) 77)::N)
    refine(sh rfl HG6 (j5i _ (j0Y _)) ((j0Y _).trans (j0Y _).symm) (j3I _) ?_)
    refine fun _=>enL fun u28 EX27=>?_
    rcases e2 with _|e3
    case succ=>
     have C13:Hid (decide (((e3+1:Nat):Int)≠0)=true):=decide_eq_true (by omega)
     have HF2:Hid ((j0t p (rsT l)).2=e3+1):=by
      have h1:=j7b j8a HIL.out HRUN.out (by rw[HRG.out];exact HS.out)
      show _=_
      rw[j7D HK.out (by rw[HRL.out];have:=HK2.out;omega) (by rw[HOT.out];exact h1)]
     go_upto_region 12 with (fail)
     refine rgQ [0,1] [2,3,4,5,6,7,8,9] EX27 rfl fun hw=>?_
     refine qo rfl hw ?_
     refine ql rfl mH trivial hw ?_
     refine j0b<|qr rfl func182 (fun u hu=>(j2j (HSD.out u _ hu (fun y hy=>mT hy))).mono (fun _ _⟨x,N,k1,k2,k3⟩=>⟨x,N,k1,HSN.out x N k2,k3⟩)) ?_
     rintro _ N9 ⟨v9,rfl,hF⟩ hf he30
     have HF9:=hD (And.intro hF hf)
     clear hF
     clear hf
     refine phE [3,4,5,6,7,8,9] [] he30 fun hw=>?_
     refine qw 7 hw ?_
     refine enP fun u33 EX32=>?_
     go_upto_region 13 with (fail)
     refine rgQ [0,1] [] EX32 rfl fun hw=>?_
     refine qo rfl hw ?_
     refine qv rfl (fun u hu=>j1i u C13.out rfl rfl) hw ?_
     refine enP fun u36 EX35=>?_
     go_upto_region 14 with (fail)
     refine rgQ [0,1,2] [] EX35 rfl fun hw=>?_
     refine qw 3 hw ?_
     refine enP fun u39 EX38=>?_
     have HBE:=hD (EnvX.bel EX38.out)
     go_wp2
     go_returns
     exact⟨ApE.mk (k:=e3+1) (.slice none 0 0) HF2.out (fun h=>absurd h (Nat.succ_ne_zero _)),HBE.out⟩
    have C13:Hid (decide (((0:Nat):Int)≠0)=false):=decide_eq_false (by omega)
    have hstp:=j7S j8a HIL.out HRUN.out (by rw[HRG.out];exact HS.out)
    have HSTP:=hD hstp
    have hrb2:=j3m HK.out HPP.out hstp
    have HAD:Hid (IntKind.i64.wrap (50+m+m2)=50+(m+m2)):=by show _=_;rw[j6R (by have:=hrb2.2.2.1;have:=hrb2.2.2.2.1;omega)];omega
    clear hstp hrb2
    go_upto_region 12 with (fail)
    refine rgQ [0,1] [2,3,4,5,6,7,8,9] EX27 rfl fun hw=>?_
    refine qo rfl hw ?_
    refine ql rfl mH trivial hw ?_
    refine j0b<|qr rfl func182 (fun u hu=>(j2j (HSD.out u _ hu (fun y hy=>mT hy))).mono (fun _ _⟨x,N,k1,k2,k3⟩=>⟨x,N,k1,HSN.out x N k2,k3⟩)) ?_
    rintro _ N9 ⟨v9,rfl,hF⟩ hf he30
    have HF9:=hD (And.intro hF hf)
    clear hF
    clear hf
    refine phE [3,4,5,6,7,8,9] [] he30 fun hw=>?_
    refine qw 7 hw ?_
    refine enP fun u33 EX32=>?_
    go_upto_region 13 with (fail)
    refine rgQ [0,1] [] EX32 rfl fun hw=>?_
    refine qo rfl hw ?_
    refine qv rfl (fun u hu=>j1i u C13.out rfl rfl) hw ?_
    refine enP fun u36 EX35=>?_
    go_upto_region 15 with (fail)
    refine rgQ [0,1,2,3,4,5] [] EX35 rfl fun hw=>?_
    refine qw 3 hw ?_
    refine qv rfl (fun u hu=>j3H u HAD.out rfl rfl) hw ?_
    refine qw 2 hw ?_
    refine enP fun u39 EX38=>?_
    have HNX:Hid (j3U p 0 ((rsT l).take (i+1))= .ok (q2,(m+m2))∧ ∃N,FreshR 137 35 q2.length (q2.map coC).flatten v9 N∧j01 w N []∧EnvX w u39 N):=⟨HSTP.out,N9,HF9.out.1 rfl,fun y hy=>⟨(HF9.out.2 y hy).1,fun z hz=>by cases hz⟩,EnvX.sub EX38.out (fun y hy=>mL hy)⟩
    have hii:=HI.out
    have hn:=HNO.out.1
    go_wp2
    go_roundw
    case rel=>exact⟨i+1,q2,m+m2,by omega,by go_num,rfl,HNX⟩
    case measure=>simp[intOf];omega
  · have hino:i=n':=by omega
    have C10:Hid (decide ((i:Int)<((n':Nat):Int))=false):=decide_eq_false (by omega)
    have HRA:Hid (j3U p 0 (if j2P (rsT l)then (rsT l).tail else rsT l)= .ok (q,m)):=by
     have h:=HRUN.out
     show _=_
     rw[HOT.out]
     rwa[tL (by unfold rsT;rw[lM,HLN.out,hino];exact Nat.le_refl _)]at h
    clear hlt hino
    go_upto_region 10 with (fail)
    refine rgQ [0] [] EK rfl fun hw=>?_
    refine qv rfl (fun u hu=>j0o u C10.out rfl rfl) hw ?_
    refine enP fun u503 EX502=>?_
    go_upto_region 17 with (fail)
    refine rgQ [0,1] [] EX502 rfl fun hw=>?_
    refine qw 2 hw ?_
    refine enP fun u506 EX505=>?_
    have HAP:Hid (j0t p (rsT l)=(q,0)):=q0v HK.out (by rw[HRL.out];have:=HK2.out;omega) HRA.out HLO.out
    have HF2:Hid ((j0t p (rsT l)).2=0):=by show _=_;rw[HAP.out]
    go_upto_region 18 with (fail)
    refine rgQ [0,1,2] [] EX505 rfl fun hw=>?_
    refine qw 3 hw ?_
    refine enP fun u509 EX508=>?_
    have HOW:=hD (HF.out.own (w:=u509) (B:=w.heap.size) (FreshR.lenOf HF.out) (fun y hy=>⟨(HFR.out y hy).1,EnvX.box EX508.out _ _ hy⟩))
    have HBE:=hD (EnvX.bel EX508.out)
    go_wp2
    go_returns
    exact⟨ApE.mk (k:=0) (.slice A3 q.length c3) HF2.out (fun _=>by rw[HAP.out];exact HOW.out),HBE.out⟩
theorem q0O(p:List CoinR)(A:Option Addr)(n c:Nat)(l:List TxM)(A':Option Addr)(n' c':Nat)(w:World)(hl:p.length=n)(hnc:n≤c)(hcm:c≤maxLen)(hI:okP p)(hA:CoinsIn w w.heap.size A p)(hl':l.length=n')(hnc':n'≤c')(hcm':c'≤maxLen)(hA':TxsIn w A' l)(htt:Tables w)(k1:j3h p=true)(k2: ¬4<n')(k3:0<n')(k4:j2P (rsT l)=true):
  Calls Tryz.prog 132 #[.slice A n c, .slice A' n' c'] w fun e w'=>ApE (j0t p (rsT l)) w' w.heap.size e∧Below w.heap.size w w':=by
 have HMY:Hid (Rb w 181 #[.slice A n c] (.bool (j3h p))):=fun u hu=>j3S p A n c u hl hnc hcm hI (CellsIn.up hA hu)
 have HM63:Hid (n'<9223372036854775808):=by show _<_;unfold maxLen at hcm';omega
 have E1:Hid (EnvX w w []):=EnvX.start w
 have D4:Hid (decide ((4:Int)<(n':Int))=false):=decide_eq_false (by omega)
 have HK:=hD k1
 have HK2:Hid (n'≤4):=by show _≤_;omega
 have HRL:Hid ((rsT l).length=n'):=by show _=_;unfold rsT;rw[lM,hl']
 have HTT:=hD htt
 have HL':=hD hl'
 have HTI:=hD hA'
 have HPP:=hD hI
 have HL:=hD hl
 have HCLN:Hid (∀u,Below w.heap.size w u→Calls Tryz.prog 131 #[.slice A n c] u fun e w'=>(∃v,e= .returned v∧w'.ownsRow u.heap.size 137 35 v n (p.map coC).flatten)∧Below u.heap.size u w'):=fun u hu=>j3n p A n c u hl (by have:=(mayP_iff.1 k1).1;omega) hI (CellsIn.up hA hu)
 rw[k1]at HMY
 have HLO:Hid (j2P (rsT l)=true):=k4
 have C5:Hid (decide ((0:Int)<(n':Int))=true):=decide_eq_true (by omega)
 have HI0:Hid (0<n'):=k3
 obtain⟨ad0,hA0,-,hld0⟩:=hA'.loads (k:=0) (by rw[hl'];exact k3)
 have hA0':A'=some ad0:=hA0
 subst hA0'
 have HLD0:=hD hld0
 have HL0:Hid (∀u,EnvX w u []→(loadVar 74 ((ad0.add (0*2)).add 0)).run Tryz.prog u= .ok (.slice (l.getD 0 j0A).A1 (l.getD 0 j0A).n1 (l.getD 0 j0A).c1) u):=fun u hu=>by
  have h:=(hld0 u hu).2.1
  rwa[show ((ad0.add (0*2)).add 0)=ad0.add (0*2)by unfold Addr.add;rfl]
 have ht0:TxOk w (l.getD 0 j0A):=hA'.get (i:=0) (by rw[hl'];exact k3)
 have HT0:=hD ht0
 have hrg0:(rsT l).getD 0 j8a=(l.getD 0 j0A).r:=by
  unfold rsT
  rw[gD,List.getElem?_map,gD,gE (show 0<l.length by omega)]
  rfl
 have HRG0:=hD hrg0
 have HN0:Hid ((l.getD 0 j0A).n1<9223372036854775808):=ht0.n63.1
 have C9:Hid (decide (((l.getD 0 j0A).n1:Int)=0)=true):=by
  have hlg:=q3Q (l:=rsT l) j8a (by rw[HRL.out];exact k3)
  rw[hrg0,k4]at hlg
  have h1:=ht0.l1
  show _=_
  rw[hlg]
  refine decide_eq_decide.2 ⟨fun h=>List.eq_nil_of_length_eq_zero (by rw[h1];omega),fun h=>?_⟩
  have h2:(l.getD 0 j0A).n1=0:=by rw[←h1,h];rfl
  omega
 generalize ht0g:l.getD 0 j0A=tm0 at *
 have HTO:Hid (TxsIn w (j5d 2 (some ad0) 1 c') l.tail):=hA'.tail (by rw[hl'];exact hnc') (by rw[hl'];exact k3)
 have HN1L:Hid (1≤n'):=k3
 have HLN:Hid ((l.tail).length=(n'- 1)):=by show _=_;rw[List.length_tail,hl']
 have HNO:Hid ((n'- 1)≤4∧(n'- 1)<9223372036854775808):=⟨by omega,by omega⟩
 have HOT:Hid ((if j2P (rsT l)then (rsT l).tail else rsT l)=rsT l.tail):=by
  show _=_
  rw[HLO.out]
  unfold rsT
  simp[List.map_tail]
 clear k1 k2 k3 k4 hl hnc hcm hI hA hl' hnc' hcm' hA' htt hA0 hld0 ht0 hrg0 ht0g
 go_enter func132,ntmps132
 go_upto_region 1 with (fail)
 refine rgQ [0,1,2] [] E1 rfl fun hw=>?_
 refine qo rfl hw ?_
 refine qc rfl func181 (fun u hu=>HMY.out u (EnvX.bel hu)) hw ?_
 refine qo rfl hw ?_
 refine enP fun u3 EX2=>?_
 go_upto_region 3 with (fail)
 refine rgQ [0,1,2] [] EX2 rfl fun hw=>?_
 refine qo rfl hw ?_
 refine qv rfl (fun u hu=>j0l underlying23 HM63.out u rfl) hw ?_
 refine qv rfl (fun u hu=>j1m u D4.out rfl rfl) hw ?_
 refine enP fun u6 EX5=>?_
 go_upto_region 5 with (fail)
 refine rgQ [0,1,2,3,4,5,6,7,8,9,10,11,12,13] [] EX5 rfl fun hw=>?_
 refine qo rfl hw ?_
 refine qv rfl (fun u hu=>j0l underlying23 HM63.out u rfl) hw ?_
 refine qv rfl (fun u hu=>j1m u C5.out rfl rfl) hw ?_
 refine qw 2 hw ?_
 refine qv rfl (fun u hu=>j0h underlying23 aggTx.size HI0.out u rfl rfl) hw ?_
 refine qv (v:= .pointer (some ((ad0.add (0*2)).add 0))) rfl (fun u hu=>j6p (k:=0) (off:=0) rfl u rfl) hw ?_
 refine qv rfl (fun u hu=>j0a u (HL0.out u (nl hu)) rfl) hw ?_
 refine qv rfl (fun u hu=>j0l underlying74 HN0.out u rfl) hw ?_
 refine qv rfl (fun u hu=>j1C u C9.out rfl rfl) hw ?_
 refine qw 4 hw ?_
 refine enP fun u9 EX8=>?_
 go_upto_region 6 with (fail)
 refine rgQ [0] [] EX8 rfl fun hw=>?_
 refine qo rfl hw ?_
 refine enP fun u12 EX11=>?_
 go_upto_region 7 with (fail)
 refine rgQ [0,1,2] [] EX11 rfl fun hw=>?_
 refine qo rfl hw ?_
 refine qv (v:= .slice (j5d 2 (some ad0) 1 c') (n'- 1) (c'- 1)) rfl (fun u hu=>j60 x3L (j:=1) u HN1L.out rfl rfl) hw ?_
 refine qo rfl hw ?_
 refine enP fun u15 EX14=>?_
 go_upto_region 8 with (fail)
 refine rgQ [0] [1,2,3] EX14 rfl fun hw=>?_
 refine qo rfl hw ?_
 refine j0b<|qr rfl func131 (fun u hu=>j0i (HCLN.out u (EnvX.bel hu))) ?_
 rintro x0 N0 hF hf he17
 have HF0:=hD (And.intro hF hf)
 clear hF
 clear hf
 change j1E _ _ _ _ _ _ (N0++[])
 rw[List.append_nil]at he17 ⊢
 refine phE [2,3] [] he17 fun hw=>?_
 refine qw 2 hw ?_
 refine enP fun u20 EX19=>?_
 go_upto_region 9 with (fail)
 refine rgQ [0,1,2] [] EX19 rfl fun hw=>?_
 refine qo rfl hw ?_
 refine qv rfl (fun u hu=>j0l underlying23 HNO.out.2 u rfl) hw ?_
 refine qo rfl hw ?_
 refine enP fun u23 EX22=>?_
 have HINV:Hid (j3U p 0 ((rsT l.tail).take 0)= .ok (p,0)∧ ∃N,FreshR 137 35 p.length (p.map coC).flatten x0 N∧j01 w N []∧EnvX w u23 N):=by
  refine⟨rfl,N0,?_,HF0.out.2,EX22.out⟩
  rw[HL.out]
  exact HF0.out.1
 clear EX22 E1 HF0
 go_upto_region 10 with (fail)
 go_loopw [8,9,40] (fun nv mv iv u=> ∃(i:Nat)(q:List CoinR)(m:Int),i≤(n'- 1)∧iv= .int .i64 (i:Int)∧mv= .int .i64 (50+m)∧Hid (j3U p 0 ((rsT l.tail).take i)= .ok (q,m)∧ ∃N,FreshR 137 35 q.length (q.map coC).flatten nv N∧j01 w N []∧EnvX w u N)) (fun _ _ iv _=>(n'- 1) - (intOf iv).toNat)
 case atStart=>exact⟨0,p,0,by omega,rfl,rfl,HINV⟩
 case round=>
  obtain⟨i,q,m,hi,rfl,rfl,hinv⟩:=hrel
  obtain⟨hrun,N,hF,hfr,hE⟩:=hinv.out
  have EK:=hD hE
  have HRUN:=hD hrun
  have HRB:=hD (j3m HK.out HPP.out hrun)
  have HF:=hD hF
  have HFR:=hD hfr
  obtain⟨A3,c3,rfl,hc1,hc2⟩:=FreshR.formC HF.out
  have HC3:=hD (And.intro hc1 hc2)
  have HCO:Hid (∀u M,EnvX w u M→(∀y∈N,y∈M)→CoinsIn u u.heap.size A3 q):=fun u M hu hm=>j2k (HF.out.own (w:=u) (B:=0) (FreshR.lenOf HF.out) (fun y hy=>⟨Nat.zero_le _,hu.box _ _ (hm y hy)⟩))
  clear hinv HINV hrun hF hfr hE hc1 hc2
  by_cases hlt:i<(n'- 1)
  · have C10:Hid (decide ((i:Int)<(((n'- 1):Nat):Int))=true):=decide_eq_true (by omega)
    have HI:Hid (i<(n'- 1)):=hlt
    have hil:i<(l.tail).length:=by rw[HLN.out];exact hlt
    have HIL:Hid (i<(rsT l.tail).length):=by show _<_;unfold rsT;rw[lM];exact hil
    obtain⟨ad,hAO,-,hld⟩:=HTO.out.loads hil
    have HAO:Hid ((j5d 2 (some ad0) 1 c')=some ad):=hAO
    have HLD:=hD hld
    have HTX:Hid (TxOk w ((l.tail).getD i j0A)):=HTO.out.get hil
    have hrg:(rsT l.tail).getD i j8a=((l.tail).getD i j0A).r:=by
     unfold rsT
     rw[gD,List.getElem?_map,gD,gE hil]
     rfl
    obtain⟨t,ht⟩: ∃t,(l.tail).getD i j0A=t:=⟨_,rfl⟩
    rw[ht]at HLD HTX hrg
    have HRG:=hD hrg
    have HSD:Hid (∀u M,EnvX w u M→(∀y∈N,y∈M)→Calls Tryz.prog 182 #[.slice A3 q.length c3,txV t] u fun e w'=>SpE q t.r w' u.heap.size e∧Below u.heap.size u w'):=fun u M hu hm=>by
     obtain⟨r,B1,m1,d1,B2,m2,d2⟩:=t
     exact j6f q A3 q.length c3 r B1 m1 d1 B2 m2 d2 u rfl HC3.out.1 HC3.out.2 HRB.out.1 (HCO.out u M hu hm) (HTX.out.up (EnvX.bel hu)) (HTT.out.below (EnvX.bel hu))
    have HSN:Hid (∀x N,SpN q t.r x N→ ∃v,x= .tuple #[v, .int .i64 (j0x q t.r).2.1, .int .i64 ((j0x q t.r).2.2:Int)]∧((j0x q t.r).2.2=0→FreshR 137 35 (j0x q t.r).1.length (((j0x q t.r).1).map coC).flatten v N)):=fun x N h=>h
    rcases hs:j0x q t.r with ⟨q2,m2,e2⟩
    rw[hs]at HSN
    simp only at HSN
    have HS:=hD hs
    clear hlt hil hAO hld hrg ht hs
    go_upto_region 10 with (fail)
    refine rgQ [0] [] EK rfl fun hw=>?_
    refine qv rfl (fun u hu=>j0o u C10.out rfl rfl) hw ?_
    refine enP fun u23 EX22=>?_
    go_upto_region 11 with (fail)
    refine rgQ [0,1] [2,3] EX22 rfl fun hw=>?_
    refine qv (v:= .pointer (some (ad.add (i*2)))) rfl (fun u hu=>j7k (i:=i) underlying23 aggTx.size HI.out HAO.out u rfl rfl) hw ?_
    refine qv rfl (fun u hu=>j0a u (HLD.out u (nl hu)).1 rfl) hw ?_
    refine j0b<|qn rfl (j6G _) fun gx HG6 he25=>?_
    change j1E _ _ _ _ _ _ ((gx,oc (txA j0A) 77)::N)
    refine(sh rfl HG6 (j5i _ (j0Y _)) ((j0Y _).trans (j0Y _).symm) (j3I _) ?_)
    refine fun _=>enL fun u28 EX27=>?_
    rcases e2 with _|e3
    case succ=>
     have C13:Hid (decide (((e3+1:Nat):Int)≠0)=true):=decide_eq_true (by omega)
     have HF2:Hid ((j0t p (rsT l)).2=e3+1):=by
      have h1:=j7b j8a HIL.out HRUN.out (by rw[HRG.out];exact HS.out)
      show _=_
      rw[j7D HK.out (by rw[HRL.out];have:=HK2.out;omega) (by rw[HOT.out];exact h1)]
     go_upto_region 12 with (fail)
     refine rgQ [0,1] [2,3,4,5,6,7,8,9] EX27 rfl fun hw=>?_
     refine qo rfl hw ?_
     refine ql rfl mH trivial hw ?_
     refine j0b<|qr rfl func182 (fun u hu=>(j2j (HSD.out u _ hu (fun y hy=>mT hy))).mono (fun _ _⟨x,N,k1,k2,k3⟩=>⟨x,N,k1,HSN.out x N k2,k3⟩)) ?_
     rintro _ N9 ⟨v9,rfl,hF⟩ hf he30
     have HF9:=hD (And.intro hF hf)
     clear hF
     clear hf
     refine phE [3,4,5,6,7,8,9] [] he30 fun hw=>?_
     refine qw 7 hw ?_
     refine enP fun u33 EX32=>?_
     go_upto_region 13 with (fail)
     refine rgQ [0,1] [] EX32 rfl fun hw=>?_
     refine qo rfl hw ?_
     refine qv rfl (fun u hu=>j1i u C13.out rfl rfl) hw ?_
     refine enP fun u36 EX35=>?_
     go_upto_region 14 with (fail)
     refine rgQ [0,1,2] [] EX35 rfl fun hw=>?_
     refine qw 3 hw ?_
     refine enP fun u39 EX38=>?_
     have HBE:=hD (EnvX.bel EX38.out)
     go_wp2
     go_returns
     exact⟨ApE.mk (k:=e3+1) (.slice none 0 0) HF2.out (fun h=>absurd h (Nat.succ_ne_zero _)),HBE.out⟩
    have C13:Hid (decide (((0:Nat):Int)≠0)=false):=decide_eq_false (by omega)
    have hstp:=j7S j8a HIL.out HRUN.out (by rw[HRG.out];exact HS.out)
    have HSTP:=hD hstp
    have hrb2:=j3m HK.out HPP.out hstp
    have HAD:Hid (IntKind.i64.wrap (50+m+m2)=50+(m+m2)):=by show _=_;rw[j6R (by have:=hrb2.2.2.1;have:=hrb2.2.2.2.1;omega)];omega
    clear hstp hrb2
    go_upto_region 12 with (fail)
    refine rgQ [0,1] [2,3,4,5,6,7,8,9] EX27 rfl fun hw=>?_
    refine qo rfl hw ?_
    refine ql rfl mH trivial hw ?_
    refine j0b<|qr rfl func182 (fun u hu=>(j2j (HSD.out u _ hu (fun y hy=>mT hy))).mono (fun _ _⟨x,N,k1,k2,k3⟩=>⟨x,N,k1,HSN.out x N k2,k3⟩)) ?_
    rintro _ N9 ⟨v9,rfl,hF⟩ hf he30
    have HF9:=hD (And.intro hF hf)
    clear hF
    clear hf
    refine phE [3,4,5,6,7,8,9] [] he30 fun hw=>?_
    refine qw 7 hw ?_
    refine enP fun u33 EX32=>?_
    go_upto_region 13 with (fail)
    refine rgQ [0,1] [] EX32 rfl fun hw=>?_
    refine qo rfl hw ?_
    refine qv rfl (fun u hu=>j1i u C13.out rfl rfl) hw ?_
    refine enP fun u36 EX35=>?_
    go_upto_region 15 with (fail)
    refine rgQ [0,1,2,3,4,5] [] EX35 rfl fun hw=>?_
    refine qw 3 hw ?_
    refine qv rfl (fun u hu=>j3H u HAD.out rfl rfl) hw ?_
    refine qw 2 hw ?_
    refine enP fun u39 EX38=>?_
    have HNX:Hid (j3U p 0 ((rsT l.tail).take (i+1))= .ok (q2,(m+m2))∧ ∃N,FreshR 137 35 q2.length (q2.map coC).flatten v9 N∧j01 w N []∧EnvX w u39 N):=⟨HSTP.out,N9,HF9.out.1 rfl,fun y hy=>⟨(HF9.out.2 y hy).1,fun z hz=>by cases hz⟩,EnvX.sub EX38.out (fun y hy=>mL hy)⟩
    have hii:=HI.out
    have hn:=HNO.out.1
    go_wp2
    go_roundw
    case rel=>exact⟨i+1,q2,m+m2,by omega,by go_num,rfl,HNX⟩
    case measure=>simp[intOf];omega
  · have hino:i=(n'- 1):=by omega
    have C10:Hid (decide ((i:Int)<(((n'- 1):Nat):Int))=false):=decide_eq_false (by omega)
    have HRA:Hid (j3U p 0 (if j2P (rsT l)then (rsT l).tail else rsT l)= .ok (q,m)):=by
     have h:=HRUN.out
     show _=_
     rw[HOT.out]
     rwa[tL (by unfold rsT;rw[lM,HLN.out,hino];exact Nat.le_refl _)]at h
    clear hlt hino
    go_upto_region 10 with (fail)
    refine rgQ [0] [] EK rfl fun hw=>?_
    refine qv rfl (fun u hu=>j0o u C10.out rfl rfl) hw ?_
    refine enP fun u503 EX502=>?_
    go_upto_region 17 with (fail)
    refine rgQ [0,1] [] EX502 rfl fun hw=>?_
    refine qw 2 hw ?_
    refine enP fun u506 EX505=>?_
    have hap:=q2G HK.out (by rw[HRL.out];have:=HK2.out;omega) HRA.out HLO.out j8a
    rw[HRG0.out]at hap
    have HAP:=hD hap
    have HCI:Hid (Rb w 133 #[txV tm0] (idv (idX tm0.r))):=fun u hu=>j9m tm0 u (HT0.out.up hu) (HTT.out.below hu)
    have HMI:Hid (∀u M,EnvX w u M→(∀y∈N,y∈M)→Calls Tryz.prog 183 #[.slice A3 q.length c3,txV tm0,idv (idX tm0.r), .int .i64 (50+m)] u fun e w'=>ApE (j9T q tm0.r (50+m)) w' u.heap.size e∧Below u.heap.size u w'):=fun u M hu hm=>by
     obtain⟨k1,k2,k3⟩:=mayP_iff.1 HRB.out.2.2.2.2
     have hT:=HT0.out.up (EnvX.bel hu)
     obtain⟨r,B1,m1,d1,B2,m2,d2⟩:=tm0
     exact q7S q A3 q.length c3 r B1 m1 d1 B2 m2 d2 (50+m) u rfl (by omega) HC3.out.1 HC3.out.2 HRB.out.1 k3 (HCO.out u M hu hm) k2 hT
    clear hap
    generalize j9T q tm0.r (50+m)=mr at *
    generalize idX tm0.r=id at *
    go_upto_region 19 with (fail)
    refine rgK [0,1,2,3,4,5,6,7,8] 5 EX505 rfl fun hw=>?_
    refine qw 2 hw ?_
    refine qv rfl (fun u hu=>j0h underlying23 aggTx.size HI0.out u rfl rfl) hw ?_
    refine qv rfl (fun u hu=>j0a u (HLD0.out u (nl hu)).1 rfl) hw ?_
    refine qo rfl hw ?_
    refine qv rfl (fun u hu=>j0h underlying23 aggTx.size HI0.out u rfl rfl) hw ?_
    refine qv rfl (fun u hu=>j0a u (HLD0.out u (nl hu)).1 rfl) hw ?_
    refine qc rfl func133 (fun u hu=>HCI.out u (EnvX.bel hu)) hw ?_
    refine qo rfl hw ?_
    refine j0b<|aO 9 (qr rfl func183 (fun u hu=>j4H (HMI.out u _ hu (fun y hy=>hy))) ?_)
    rintro _ N9 ⟨v9,rfl,hF⟩ hf he508
    have HF9:=hD (And.intro hF hf)
    clear hF
    clear hf
    refine phF [10,11,12,13] 0 rfl he508 fun hw=>?_
    refine qw 4 hw ?_
    refine eH fun u511 EX510=>?_
    have HBE:=hD (EnvX.bel EX510.out)
    have HOW:Hid (mr.2=0→World.ownsRow u511 w.heap.size 137 35 v9 (j0t p (rsT l)).1.length (((j0t p (rsT l)).1).map coC).flatten):=fun h0=>by
     have hF:=HF9.out.1 h0
     rw[HAP.out.2 (by rw[HAP.out.1];exact h0)]
     exact hF.own (FreshR.lenOf hF) (fun y hy=>⟨(HF9.out.2 y hy).1,EnvX.box EX510.out _ _ (mL hy)⟩)
    go_wp2
    go_returns
    exact⟨ApE.mk (k:=mr.2) v9 HAP.out.1 HOW.out,HBE.out⟩
theorem q5k(p:List CoinR)(A:Option Addr)(n c:Nat)(l:List TxM)(A':Option Addr)(n' c':Nat)(w:World)(hl:p.length=n)(hnc:n≤c)(hcm:c≤maxLen)(hI:okP p)(hA:CoinsIn w w.heap.size A p)(hl':l.length=n')(hnc':n'≤c')(hcm':c'≤maxLen)(hA':TxsIn w A' l)(htt:Tables w):
   Calls Tryz.prog 132 #[.slice A n c, .slice A' n' c'] w fun e w'=>ApE (j0t p (rsT l)) w' w.heap.size e∧Below w.heap.size w w':=by
 by_cases k:j3h p=true
 · by_cases k2:4<n'
   · exact q1V p A n c l A' n' c' w hl hnc hcm hI hA hl' hnc' hcm' hA' htt k k2
   · by_cases k3:n'=0
     · exact j9V p A n c l A' n' c' w hl hnc hcm hI hA hl' hnc' hcm' hA' htt k k2 k3
     · cases k4:j2P (rsT l)with
       |false=>exact q0K p A n c l A' n' c' w hl hnc hcm hI hA hl' hnc' hcm' hA' htt k k2 (by omega) k4
       |true=>exact q0O p A n c l A' n' c' w hl hnc hcm hI hA hl' hnc' hcm' hA' htt k k2 (by omega) k4
 · exact q4t p A n c l A' n' c' w hl hnc hcm hI hA hl' hnc' hcm' hA' htt (by simpa using k)
theorem j7C(p:List CoinR)(A:Option Addr)(n c:Nat)(l:List TxM)(A':Option Addr)(n' c':Nat)(w:World)(hl:p.length=n)(hnc:n≤c)(hcm:c≤maxLen)(hI:okP p)(hA:CoinsIn w w.heap.size A p)(hn:n≤1000)(hl':l.length=n')(hnc':n'≤c')(hcm':c'≤maxLen)(hA':TxsIn w A' l)(htt:Tables w):
  Calls Tryz.prog 78 #[.slice A n c, .slice A' n' c'] w fun e w'=>(∃v,e= .returned (.tuple #[v, .int .i64 ((j0t p (rsT l)).2:Int)])∧x3q w' v (j0t p (rsT l)).1)∧Below w.heap.size w w':=by
 have HSD:Hid (∀u,Below w.heap.size w u→Calls Tryz.prog 132 #[.slice A n c, .slice A' n' c'] u fun e w'=>ApE (j0t p (rsT l)) w' u.heap.size e∧Below u.heap.size u w'):=fun u hu=>
  q5k p A n c l A' n' c' u hl hnc hcm hI (CellsIn.up hA hu) hl' hnc' hcm' (hA'.up hu) (htt.below hu)
 have HCLN:Hid (∀u,Below w.heap.size w u→Calls Tryz.prog 131 #[.slice A n c] u fun e w'=>(∃v,e= .returned v∧w'.ownsRow u.heap.size 137 35 v n (p.map coC).flatten)∧Below u.heap.size u w'):=fun u hu=>j3n p A n c u hl (by omega) hI (CellsIn.up hA hu)
 have E1:Hid (EnvX w w []):=EnvX.start w
 have HL:=hD hl
 have he1:(j0t p (rsT l)).2≠0→(j0t p (rsT l)).1=p:=q18 hI.id (rsT l)
 have HSN:Hid (∀x N,ApN (j0t p (rsT l)) x N→ ∃v,x= .tuple #[v, .int .i64 ((j0t p (rsT l)).2:Int)]∧((j0t p (rsT l)).2=0→FreshR 137 35 (j0t p (rsT l)).1.length (((j0t p (rsT l)).1).map coC).flatten v N)):=fun x N h=>h
 clear hl hn hnc hcm hI hA hl' hnc' hcm' hA' htt
 generalize j0t p (rsT l)=a at *
 obtain⟨q,e⟩:=a
 simp only at HSN he1 ⊢
 by_cases hz:e=0
 case neg=>
  obtain rfl:=he1 hz
  have C2:Hid (decide ((e:Int)≠0)=true):=decide_eq_true (by omega)
  clear he1 hz
  go_enter func78,ntmps78
  go_upto_region 1 with (fail)
  refine rgQ [0,1] [2,3,4,5,6,7] E1 rfl fun hw=>?_
  refine qw 2 hw ?_
  refine j0b<|qr rfl func132 (fun u hu=>(j4H (HSD.out u (EnvX.bel hu))).mono (fun _ _⟨x,N,k1,k2,k3⟩=>⟨x,N,k1,HSN.out x N k2,k3⟩)) ?_
  rintro _ N0 ⟨v0,rfl,hF⟩ hf he2
  have HF0:=hD (And.intro hF hf)
  clear hF
  clear hf
  change j1E _ _ _ _ _ _ (N0++[])
  rw[List.append_nil]at he2 ⊢
  refine phE [3,4,5,6,7] [] he2 fun hw=>?_
  refine qw 5 hw ?_
  refine enP fun u5 EX4=>?_
  go_upto_region 2 with (fail)
  refine rgQ [0,1] [] EX4 rfl fun hw=>?_
  refine qo rfl hw ?_
  refine qv rfl (fun u hu=>j1i u C2.out rfl rfl) hw ?_
  refine enP fun u8 EX7=>?_
  go_upto_region 3 with (fail)
  refine rgQ [0] [1,2,3,4] EX7 rfl fun hw=>?_
  refine qo rfl hw ?_
  refine j0b<|qr rfl func131 (fun u hu=>j0i (HCLN.out u (EnvX.bel hu))) ?_
  rintro x9 N9 hF hf he10
  have HF9:=hD (And.intro hF hf)
  clear hF
  clear hf
  refine phE [2,3,4] [] he10 fun hw=>?_
  refine qw 3 hw ?_
  refine enP fun u13 EX12=>?_
  have HCS:Hid (x3q u13 x9 q):=by
   obtain⟨A9,c9,rfl,k1,k2⟩:=FreshR.formC HF9.out.1
   exact⟨A9,c9,by rw[HL.out],by rw[HL.out];exact k1,k2,j2k (HF9.out.1.own (B:=0) (FreshR.lenOf HF9.out.1) (fun y hy=>⟨Nat.zero_le _,EnvX.box EX12.out _ _ (mL hy)⟩))⟩
  have HBE:=hD (EnvX.bel EX12.out)
  go_wp2
  go_returns
  exact⟨⟨x9,rfl,HCS.out⟩,HBE.out⟩
 case pos=>
  subst hz
  have C2:Hid (decide (((0:Nat):Int)≠0)=false):=decide_eq_false (by omega)
  clear he1
  go_enter func78,ntmps78
  go_upto_region 1 with (fail)
  refine rgQ [0,1] [2,3,4,5,6,7] E1 rfl fun hw=>?_
  refine qw 2 hw ?_
  refine j0b<|qr rfl func132 (fun u hu=>(j4H (HSD.out u (EnvX.bel hu))).mono (fun _ _⟨x,N,k1,k2,k3⟩=>⟨x,N,k1,HSN.out x N k2,k3⟩)) ?_
  rintro _ N0 ⟨v0,rfl,hF⟩ hf he2
  have HF0:=hD (And.intro hF hf)
  clear hF
  clear hf
  change j1E _ _ _ _ _ _ (N0++[])
  rw[List.append_nil]at he2 ⊢
  refine phE [3,4,5,6,7] [] he2 fun hw=>?_
  refine qw 5 hw ?_
  refine enP fun u5 EX4=>?_
  go_upto_region 2 with (fail)
  refine rgQ [0,1] [] EX4 rfl fun hw=>?_
  refine qo rfl hw ?_
  refine qv rfl (fun u hu=>j1i u C2.out rfl rfl) hw ?_
  refine enP fun u8 EX7=>?_
  go_upto_region 4 with (fail)
  refine rgQ [0,1,2] [] EX7 rfl fun hw=>?_
  refine qw 3 hw ?_
  refine enP fun u11 EX10=>?_
  have HFF:=HF0.out.1 rfl
  have HCS:Hid (x3q u11 v0 q):=by
   obtain⟨A9,c9,rfl,k1,k2⟩:=FreshR.formC HFF
   exact⟨A9,c9,rfl,k1,k2,j2k (HFF.own (B:=0) (FreshR.lenOf HFF) (fun y hy=>⟨Nat.zero_le _,EnvX.box EX10.out _ _ hy⟩))⟩
  have HBE:=hD (EnvX.bel EX10.out)
  go_wp2
  go_returns
  exact⟨⟨v0,rfl,HCS.out⟩,HBE.out⟩
section
variable {a:Act}{dst:Option Tmp}{ty:TypeId}{pos:String}{after:Array Edge}{gd:Option (Nat × Bool)}
theorem q1r(u:World):FAt Tryz.prog ⟨dst, .buildSlice 23 0 #[],ty,pos,after,gd⟩ a (fun v N=> ∃g,v= .slice (some ⟨g,0,none⟩) 0 0∧N=[(g,oc #[] 77)]) u:=by
 have h:(execOp a.eval ⟨dst, .buildSlice 23 0 #[],ty,pos,after,gd⟩).run Tryz.prog u= .ok (.value (.slice (some ⟨u.heap.size,0,none⟩) 0 0)) (u.alloc (.cells #[] 77)):=by
  unfold execOp
  go_simp
 unfold FAt
 rw[h]
 refine⟨(Below.refl _ _).alloc (Nat.le_refl _) _,_,⟨_,rfl,rfl⟩,fun y hy=>?_⟩
 cases mS.1 hy
 exact⟨Nat.le_refl _,heap_alloc_new u _⟩
end
theorem x2f(p:List TxM)(A:Option Addr)(n c:Nat)(w:World)(hl:p.length=n)(hn:n≤1000000)(hA:TxsIn w A p):
  Calls Tryz.prog 178 #[.slice A n c] w fun e w'=>(∃v,e= .returned v∧w'.ownsRow w.heap.size 77 2 v n (p.map txC).flatten)∧Below w.heap.size w w':=by
 have HPL:Hid ((p.map txC).flatten.length=n*2):=by show _=_;rw[(j6M p).flat_len,lM,hl]
 have HNB:Hid (n≤1000000):=hn
 have HON:Hid (∀v∈(p.map txC).flatten,v.oneCell'=true):=fun v hv=>by obtain⟨x,hx,hv⟩:=List.mem_flatten.1 hv;obtain⟨y,_,rfl⟩:=List.mem_map.1 hx;exact j9f y v hv
 have E1:Hid (EnvX w w []):=EnvX.start w
 have q22: ∀(w:World)(a:Option Addr)(n c n' c':Nat),(binOp .eql 23 (.slice a n c) (.slice none n' c')).run Tryz.prog w= .ok (.bool a.isNone) w:=fun w a n c n' c'=>Lib.run_eql_slice_nil w _ _ a n c n' c' underlying23
 cases A with
 | none=>
  obtain rfl:p=[]:=by
   refine List.eq_nil_of_length_eq_zero (Nat.eq_zero_of_not_pos fun hp=>?_)
   obtain⟨ad,e,_⟩:=hA.loads (k:=0) hp
   cases e
  subst hl
  clear hA HPL
  go_enter func178,ntmps178
  go_wp2
  go_ret
  exact⟨⟨_,rfl,World.ownsRow_nil _ _ _ _⟩,Below.refl _ _⟩
 |some ad=>
  have HA:Hid (CellsIn w w.heap.size (some ad) (p.map txC).flatten):=hA.cells
  clear hA hl
  go_enter func178,ntmps178
  go_upto_region 3 with (fail)
  refine j07 (w0:=w) [0,1,2,3] [] rfl E1.out ?_
  refine(j0k (R:=fun v N=> ∃g,v= .slice (some ⟨g,0,none⟩) 0 0∧N=[(g,oc #[] 77)]) (M0:=[]) rfl rfl (fun _ h=>h) (fun u hu=>q1r u) ?_)
  rintro _ _ ⟨g0,rfl,rfl⟩ hf he1;intro K' hK';go_big_quiet_op;go_big_quiet_on
  have HG0:=hD (hf _ (mS.2 rfl))
  clear hf
  refine phE [1] [2,3] he1 fun hw=>?_
  refine qo rfl hw ?_
  refine j0b<|(j03 (gd:=none) (R:=j1N w 77 2 (0+n) ([]++(p.map txC).flatten) []) rfl rfl rfl rfl (fun u hu=>j1H x3L (n:=0) (m:=n) (xs:=[]) [] hu rfl HPL.out HON.out (.inl ⟨g0,0,#[],rfl,rfl,Nat.le_refl _,Nat.zero_le _,rfl,rfl⟩) (mA ⟨⟨mH,HG0.out.1⟩,fun _ h=>by cases h⟩) (j98 HA.out (EnvX.bel hu)) (fun _ h=>by cases h) (by have:=HNB.out;omega) rfl rfl) ?_)
  rintro x1 M' ⟨N2,rfl,hF2,hn2⟩ he3;intro K' hK';go_big_quiet_op;go_big_quiet_on
  have HF2:=hD (And.intro hF2 hn2)
  clear hF2 hn2
  refine phE [3] [] he3 fun hw=>?_
  refine qo rfl hw ?_
  refine enP fun u6 EX5=>?_
  go_wp2
  go_ret
  refine⟨⟨_,rfl,?_⟩,EnvX.bel EX5.out⟩
  have h:=HF2.out.1
  rw[List.nil_append,Nat.zero_add]at h
  exact h.own HPL.out (fun y hy=>⟨(HF2.out.2 y hy).1,EnvX.box EX5.out _ _ (mL hy)⟩)
section
variable {a:Act}{dst:Option Tmp}{ty:TypeId}{pos:String}{after:Array Edge}{gd:Option (Nat × Bool)}
theorem q0X(u:World):FAt Tryz.prog ⟨dst, .buildSlice 74 0 #[],ty,pos,after,gd⟩ a (fun v N=> ∃g,v= .slice (some ⟨g,0,none⟩) 0 0∧N=[(g,oc #[] 133)]) u:=by
 have h:(execOp a.eval ⟨dst, .buildSlice 74 0 #[],ty,pos,after,gd⟩).run Tryz.prog u= .ok (.value (.slice (some ⟨u.heap.size,0,none⟩) 0 0)) (u.alloc (.cells #[] 133)):=by
  unfold execOp
  go_simp
 unfold FAt
 rw[h]
 refine⟨(Below.refl _ _).alloc (Nat.le_refl _) _,_,⟨_,rfl,rfl⟩,fun y hy=>?_⟩
 cases mS.1 hy
 exact⟨Nat.le_refl _,heap_alloc_new u _⟩
end
theorem q8h(p:List InR)(A:Option Addr)(n c:Nat)(w:World)(hl:p.length=n)(hn:n≤1000000)(hI:okIns p)(hA:InsIn w w.heap.size A p):
  Calls Tryz.prog 152 #[.slice A n c] w fun e w'=>(∃v,e= .returned v∧w'.ownsRow w.heap.size 133 33 v n (p.map inC).flatten)∧Below w.heap.size w w':=by
 have HPL:Hid ((p.map inC).flatten.length=n*33):=by show _=_;rw[(q8t hI).flat_len,lM,hl]
 have HNB:Hid (n≤1000000):=hn
 have HON:Hid (∀v∈(p.map inC).flatten,v.oneCell'=true):=fun v hv=>by obtain⟨x,hx,hv⟩:=List.mem_flatten.1 hv;obtain⟨y,_,rfl⟩:=List.mem_map.1 hx;exact q1H y v hv
 have E1:Hid (EnvX w w []):=EnvX.start w
 have q22: ∀(w:World)(a:Option Addr)(n c n' c':Nat),(binOp .eql 74 (.slice a n c) (.slice none n' c')).run Tryz.prog w= .ok (.bool a.isNone) w:=fun w a n c n' c'=>Lib.run_eql_slice_nil w _ _ a n c n' c' underlying74
 cases A with
 | none=>
  obtain rfl:p=[]:=by
   refine List.eq_nil_of_length_eq_zero (Nat.eq_zero_of_not_pos fun hp=>?_)
   obtain⟨ad,e,_⟩:=hA.loads hI (k:=0) hp
   cases e
  subst hl
  clear hI hA HPL
  go_enter func152,ntmps152
  go_wp2
  go_ret
  exact⟨⟨_,rfl,World.ownsRow_nil _ _ _ _⟩,Below.refl _ _⟩
 |some ad=>
  have HA:Hid (CellsIn w w.heap.size (some ad) (p.map inC).flatten):=hA
  clear hI hA hl
  go_enter func152,ntmps152
  go_upto_region 3 with (fail)
  refine j07 (w0:=w) [0,1,2,3] [] rfl E1.out ?_
  refine(j0k (R:=fun v N=> ∃g,v= .slice (some ⟨g,0,none⟩) 0 0∧N=[(g,oc #[] 133)]) (M0:=[]) rfl rfl (fun _ h=>h) (fun u hu=>q0X u) ?_)
  rintro _ _ ⟨g0,rfl,rfl⟩ hf he1;intro K' hK';go_big_quiet_op;go_big_quiet_on
  have HG0:=hD (hf _ (mS.2 rfl))
  clear hf
  refine phE [1] [2,3] he1 fun hw=>?_
  refine qo rfl hw ?_
  refine j0b<|(j03 (gd:=none) (R:=j1N w 133 33 (0+n) ([]++(p.map inC).flatten) []) rfl rfl rfl rfl (fun u hu=>j1H elIn (n:=0) (m:=n) (xs:=[]) [] hu rfl HPL.out HON.out (.inl ⟨g0,0,#[],rfl,rfl,Nat.le_refl _,Nat.zero_le _,rfl,rfl⟩) (mA ⟨⟨mH,HG0.out.1⟩,fun _ h=>by cases h⟩) (j98 HA.out (EnvX.bel hu)) (fun _ h=>by cases h) (by have:=HNB.out;omega) rfl rfl) ?_)
  rintro x1 M' ⟨N2,rfl,hF2,hn2⟩ he3;intro K' hK';go_big_quiet_op;go_big_quiet_on
  have HF2:=hD (And.intro hF2 hn2)
  clear hF2 hn2
  refine phE [3] [] he3 fun hw=>?_
  refine qo rfl hw ?_
  refine enP fun u6 EX5=>?_
  go_wp2
  go_ret
  refine⟨⟨_,rfl,?_⟩,EnvX.bel EX5.out⟩
  have h:=HF2.out.1
  rw[List.nil_append,Nat.zero_add]at h
  exact h.own HPL.out (fun y hy=>⟨(HF2.out.2 y hy).1,EnvX.box EX5.out _ _ (mL hy)⟩)
section
variable {a:Act}{dst:Option Tmp}{ty:TypeId}{pos:String}{after:Array Edge}{gd:Option (Nat × Bool)}
theorem q1k(u:World):FAt Tryz.prog ⟨dst, .buildSlice 75 0 #[],ty,pos,after,gd⟩ a (fun v N=> ∃g,v= .slice (some ⟨g,0,none⟩) 0 0∧N=[(g,oc #[] 135)]) u:=by
 have h:(execOp a.eval ⟨dst, .buildSlice 75 0 #[],ty,pos,after,gd⟩).run Tryz.prog u= .ok (.value (.slice (some ⟨u.heap.size,0,none⟩) 0 0)) (u.alloc (.cells #[] 135)):=by
  unfold execOp
  go_simp
 unfold FAt
 rw[h]
 refine⟨(Below.refl _ _).alloc (Nat.le_refl _) _,_,⟨_,rfl,rfl⟩,fun y hy=>?_⟩
 cases mS.1 hy
 exact⟨Nat.le_refl _,heap_alloc_new u _⟩
end
theorem q75(p:List OutR)(A:Option Addr)(n c:Nat)(w:World)(hl:p.length=n)(hn:n≤1000000)(hA:OutsIn w w.heap.size A p):
  Calls Tryz.prog 153 #[.slice A n c] w fun e w'=>(∃v,e= .returned v∧w'.ownsRow w.heap.size 135 2 v n (p.map j6Q).flatten)∧Below w.heap.size w w':=by
 have HPL:Hid ((p.map j6Q).flatten.length=n*2):=by show _=_;rw[(q1G p).flat_len,lM,hl]
 have HNB:Hid (n≤1000000):=hn
 have HON:Hid (∀v∈(p.map j6Q).flatten,v.oneCell'=true):=fun v hv=>by obtain⟨x,hx,hv⟩:=List.mem_flatten.1 hv;obtain⟨y,_,rfl⟩:=List.mem_map.1 hx;exact j9H y v hv
 have E1:Hid (EnvX w w []):=EnvX.start w
 have q22: ∀(w:World)(a:Option Addr)(n c n' c':Nat),(binOp .eql 75 (.slice a n c) (.slice none n' c')).run Tryz.prog w= .ok (.bool a.isNone) w:=fun w a n c n' c'=>Lib.run_eql_slice_nil w _ _ a n c n' c' underlying75
 cases A with
 | none=>
  obtain rfl:p=[]:=by
   refine List.eq_nil_of_length_eq_zero (Nat.eq_zero_of_not_pos fun hp=>?_)
   obtain⟨ad,e,_⟩:=hA.loads (k:=0) hp
   cases e
  subst hl
  clear hA HPL
  go_enter func153,ntmps153
  go_wp2
  go_ret
  exact⟨⟨_,rfl,World.ownsRow_nil _ _ _ _⟩,Below.refl _ _⟩
 |some ad=>
  have HA:Hid (CellsIn w w.heap.size (some ad) (p.map j6Q).flatten):=hA
  clear hA hl
  go_enter func153,ntmps153
  go_upto_region 3 with (fail)
  refine j07 (w0:=w) [0,1,2,3] [] rfl E1.out ?_
  refine(j0k (R:=fun v N=> ∃g,v= .slice (some ⟨g,0,none⟩) 0 0∧N=[(g,oc #[] 135)]) (M0:=[]) rfl rfl (fun _ h=>h) (fun u hu=>q1k u) ?_)
  rintro _ _ ⟨g0,rfl,rfl⟩ hf he1;intro K' hK';go_big_quiet_op;go_big_quiet_on
  have HG0:=hD (hf _ (mS.2 rfl))
  clear hf
  refine phE [1] [2,3] he1 fun hw=>?_
  refine qo rfl hw ?_
  refine j0b<|(j03 (gd:=none) (R:=j1N w 135 2 (0+n) ([]++(p.map j6Q).flatten) []) rfl rfl rfl rfl (fun u hu=>j1H x4w (n:=0) (m:=n) (xs:=[]) [] hu rfl HPL.out HON.out (.inl ⟨g0,0,#[],rfl,rfl,Nat.le_refl _,Nat.zero_le _,rfl,rfl⟩) (mA ⟨⟨mH,HG0.out.1⟩,fun _ h=>by cases h⟩) (j98 HA.out (EnvX.bel hu)) (fun _ h=>by cases h) (by have:=HNB.out;omega) rfl rfl) ?_)
  rintro x1 M' ⟨N2,rfl,hF2,hn2⟩ he3;intro K' hK';go_big_quiet_op;go_big_quiet_on
  have HF2:=hD (And.intro hF2 hn2)
  clear hF2 hn2
  refine phE [3] [] he3 fun hw=>?_
  refine qo rfl hw ?_
  refine enP fun u6 EX5=>?_
  go_wp2
  go_ret
  refine⟨⟨_,rfl,?_⟩,EnvX.bel EX5.out⟩
  have h:=HF2.out.1
  rw[List.nil_append,Nat.zero_add]at h
  exact h.own HPL.out (fun y hy=>⟨(HF2.out.2 y hy).1,EnvX.box EX5.out _ _ (mL hy)⟩)
section
variable {a:Act}{dst:Option Tmp}{x y:Operand}{ty:TypeId}{pos:String}{after:Array Edge}{gd:Option (Nat × Bool)}
theorem q7e{m k:Int}(u:World)(hx:a.eval x= .int .i64 m)(hy:a.eval y= .int .i64 k){ats:Array TypeId}:
  (execOp a.eval ⟨dst, .call {callee:= .builtin .min,args:= #[x,y],argTypes:=ats},ty,pos,after,gd⟩).run Tryz.prog u= .ok (.value (.int .i64 (min m k))) u:=by
 unfold execOp
 simp only[resolve,invoke,builtin,Sem.run_bind,Sem.run_pure,Result.andThen_ok,List.map_toArray,List.map_cons,List.map_nil,hx,hy,Lib.run_min_ints]
theorem x0F(u:World):FAt Tryz.prog ⟨dst, .buildSlice 35 0 #[],ty,pos,after,gd⟩ a (fun v N=> ∃g,v= .slice (some ⟨g,0,none⟩) 0 0∧N=[(g,oc #[] 26)]) u:=by
 have h:(execOp a.eval ⟨dst, .buildSlice 35 0 #[],ty,pos,after,gd⟩).run Tryz.prog u= .ok (.value (.slice (some ⟨u.heap.size,0,none⟩) 0 0)) (u.alloc (.cells #[] 26)):=by
  unfold execOp
  go_simp
 unfold FAt
 rw[h]
 refine⟨(Below.refl _ _).alloc (Nat.le_refl _) _,_,⟨_,rfl,rfl⟩,fun y hy=>?_⟩
 cases mS.1 hy
 exact⟨Nat.le_refl _,heap_alloc_new u _⟩
end
theorem j54(l:List (List Int))(A:Option Addr)(n c:Nat)(w:World)(hl:l.length=n)(hn:n≤1000000)(hI:isIds l)(hA:IdsIn w w.heap.size A l):
  Calls Tryz.prog 97 #[.slice A n c] w fun e w'=>(∃v,e= .returned v∧OwnI w' w.heap.size v l)∧Below w.heap.size w w':=by
 have HPL:Hid ((l.flatten.map u8v).length=n*32):=by show _=_;rw[lM,hI.flat_len,hl]
 have HNB:Hid (n≤1000000):=hn
 have HLN:=hD hl
 have E1:Hid (EnvX w w []):=EnvX.start w
 have q22: ∀(w:World)(a:Option Addr)(n c n' c':Nat),(binOp .eql 35 (.slice a n c) (.slice none n' c')).run Tryz.prog w= .ok (.bool a.isNone) w:=fun w a n c n' c'=>Lib.run_eql_slice_nil w _ _ a n c n' c' underlying35
 cases A with
 | none=>
  obtain rfl:l=[]:=by
   refine List.eq_nil_of_length_eq_zero (Nat.eq_zero_of_not_pos fun hp=>?_)
   obtain⟨ad,e,_⟩:=hA.load hI (i:=0) hp
   cases e
  subst hl
  clear hI hA HPL
  go_enter func97,ntmps97
  go_wp2
  go_ret
  exact⟨⟨_,rfl,OwnI.nil _ _⟩,Below.refl _ _⟩
 | some ad=>
  have HA:Hid (CellsIn w w.heap.size (some ad) (l.flatten.map u8v)):=fun hp=>by
   obtain⟨ad',e,hb,hc⟩:=hA (by rwa[lM]at hp)
   exact⟨ad',e,hb,hc⟩
  clear hI hA hl
  go_enter func97,ntmps97
  go_upto_region 3 with (fail)
  refine j07 (w0:=w) [0,1,2,3] [] rfl E1.out ?_
  refine(j0k (R:=fun v N=> ∃g,v= .slice (some ⟨g,0,none⟩) 0 0∧N=[(g,oc #[] 26)]) (M0:=[]) rfl rfl (fun _ h=>h) (fun u hu=>x0F u) ?_)
  rintro _ _ ⟨g0,rfl,rfl⟩ hf he1;intro K' hK';go_big_quiet_op;go_big_quiet_on
  have HG0:=hD (hf _ (mS.2 rfl))
  clear hf
  refine phE [1] [2,3] he1 fun hw=>?_
  refine qo rfl hw ?_
  refine j0b<|(j03 (gd:=none) (R:=j1N w 26 32 (0+n) ([]++l.flatten.map u8v) []) rfl rfl rfl rfl (fun u hu=>j1H x4I (n:=0) (m:=n) (xs:=[]) [] hu rfl HPL.out x1Q (.inl ⟨g0,0,#[],rfl,rfl,Nat.le_refl _,Nat.zero_le _,rfl,rfl⟩) (mA ⟨⟨mH,HG0.out.1⟩,fun _ h=>by cases h⟩) (j98 HA.out (EnvX.bel hu)) (fun _ h=>by cases h) (by have:=HNB.out;omega) rfl rfl) ?_)
  rintro x1 M' ⟨N2,rfl,hF2,hn2⟩ he3;intro K' hK';go_big_quiet_op;go_big_quiet_on
  have HF2:=hD (And.intro hF2 hn2)
  clear hF2 hn2
  refine phE [3] [] he3 fun hw=>?_
  refine qo rfl hw ?_
  refine enP fun u6 EX5=>?_
  go_wp2
  go_ret
  refine⟨⟨_,rfl,?_⟩,EnvX.bel EX5.out⟩
  have h:=HF2.out.1
  rw[List.nil_append,Nat.zero_add]at h
  have h2:=h.own HPL.out (fun y hy=>⟨(HF2.out.2 y hy).1,EnvX.box EX5.out _ _ (mL hy)⟩)
  unfold OwnI
  rw[HLN.out]
  exact h2
theorem j8j(l:List (List Int))(id:List Int)(lev:Int)(A:Option Addr)(n c:Nat)(w:World)(hl:l.length=n)(hn:n≤1000000)(hlev:I64 lev)(hI:isIds l)(hid:j3C id)(hA:IdsIn w w.heap.size A l)(k1:32<n):
  Calls Tryz.prog 124 #[.slice A n c,idv id, .int .i64 lev] w fun e w'=>(∃v,e= .returned v∧OwnI w' w.heap.size v (j5w l id lev))∧Below w.heap.size w w':=by
 rw[q6a (by omega)]
 have k1':(n:Int)>32:=by omega
 have HB:Below w.heap.size w (w.alloc (.cells (j0d 32 id) 26)):=(Below.refl _ _).alloc (Nat.le_refl _) _
 clear hid hI hA hl
 unfold idv
 go_enter func124,ntmps124
 go_wp2
 go_ret
 exact⟨⟨_,rfl,OwnI.nil _ _⟩,HB⟩
theorem j8k(id:List Int)(lev:Int)(A:Option Addr)(c:Nat)(w:World)(hid:j3C id):
  Calls Tryz.prog 124 #[.slice A 0 c,idv id, .int .i64 lev] w fun e w'=>(∃v,e= .returned v∧OwnI w' w.heap.size v (j5w [] id lev))∧Below w.heap.size w w':=by
 rw[q6v]
 have HD:=hD hid
 have E1:Hid (EnvX w (w.alloc (.cells (j0d 32 id) 26)) [(w.heap.size,oc (j0d 32 id) 26)]):=(EnvX.start w).new _
 clear hid
 unfold idv
 go_enter func124,ntmps124
 go_upto_region 4 with (fail)
 generalize w.alloc (.cells (j0d 32 id) 26)=W at *
 refine rgQ [0] [1,2] E1 rfl fun hw=>?_
 refine qv rfl (fun u hu=>j1f u (j21 hu mH HD.out.1) rfl) hw ?_
 refine j0b<|(j0k (R:=q1o id) (M0:=[(w.heap.size,oc (j0d 32 id) 26)]) rfl rfl (fun _ h=>h) (fun u hu=>j47 HD.out.1 rfl u) ?_)
 rintro _ _ ⟨gq,rfl,rfl⟩ hf he2;intro K' hK';go_big_quiet_op;go_big_quiet_on
 have HGQ:=hD (hf _ (mS.2 rfl))
 clear hf
 refine phE [2] [] he2 fun hw=>?_
 refine qo rfl hw ?_
 refine enP fun u5 EX4=>?_
 go_wp2
 go_ret
 have hF:FreshI [id] (.slice (some ⟨gq,0,none⟩) 1 1) [(gq,oc (j0d 32 id) 26)]:= .inl ⟨gq,1,j0d 32 id,rfl,rfl,Nat.le_refl _,by decide,j0c _ _ (by rw[HD.out.1];omega),by
  rw[j1F HD.out.1]
  show (id.map u8v).take 32=(id++[]).map u8v
  rw[List.append_nil,tL (by rw[lM,HD.out.1];exact Nat.le_refl _)]⟩
 exact⟨⟨_,rfl,hF.own (fun y hy=>by cases mS.1 hy;exact HD.out) (fun y hy=>by cases mS.1 hy;exact⟨HGQ.out.1,EnvX.box EX4.out _ _ mH⟩)⟩,EnvX.bel EX4.out⟩
theorem j8e(x:List Int)(r:List (List Int))(l:List (List Int))(hxr:l=x::r)(id:List Int)(lev:Int)(A:Option Addr)(n c:Nat)(w:World)(hl:l.length=n)(hn:n≤1000000)(hlev:I64 lev)(hI:isIds l)(hid:j3C id)(hA:IdsIn w w.heap.size A l)(h32:n≤32):
  Calls Tryz.prog 124 #[.slice A n c,idv id, .int .i64 lev] w fun e w'=>(∃v,e= .returned v∧OwnI w' w.heap.size v (j5w l id lev))∧Below w.heap.size w w':=by
 have HX0:=hD hxr
 have hrl:r.length+1=n:=by rw[←hl,hxr];rfl
 have HCL:Hid (∀u,Below w.heap.size w u→Calls Tryz.prog 97 #[.slice A n c] u fun e w'=>(∃v,e= .returned v∧OwnI w' u.heap.size v l)∧Below u.heap.size u w'):=fun u hu=>j54 l A n c u hl hn hI (hA.up hu)
 have HIL:=hD hI
 rw[hxr,q5S (by omega)]
 have HN:Hid (n≤32):=h32
 have HRL:=hD hrl
 have HII:Hid (isIds (x::r)):=by rw[←hxr];exact hI
 have HLE0:=hD hl
 have hlv:=x1A lev
 have n32: ¬(n:Int)>32:=by omega
 have n0: ¬(n:Int)=0:=by omega
 unfold I64 at hlev
 clear hI hA hl hxr hrl
 have HD:=hD hid
 have E1:Hid (EnvX w (w.alloc (.cells (j0d 32 id) 26)) [(w.heap.size,oc (j0d 32 id) 26)]):=(EnvX.start w).new _
 clear hid
 unfold idv
 go_enter func124,ntmps124
 go_upto_region 5 with (fail)
 generalize w.alloc (.cells (j0d 32 id) 26)=W at *
 refine rgQ [0] [1,2] E1 rfl fun hw=>?_
 refine qo rfl hw ?_
 refine j0b<|qr rfl func97 (fun u hu=>j6w (HCL.out u (EnvX.bel hu))) ?_
 rintro x0 N0 hF hf he2
 have HF0:=hD (And.intro hF hf)
 clear hF
 clear hf
 refine phE [2] [] he2 fun hw=>?_
 refine qo rfl hw ?_
 refine enP fun u5 EX4=>?_
 have HIN:Hid (x4q w id (j3L x r id 0) x0 u5):=⟨N0,by
  rw[q7V,←HX0.out]
  exact HF0.out.1,fun y hy=>⟨(HF0.out.2 y hy).1,(HF0.out.2 y hy).2⟩,EX4.out⟩
 clear EX4 E1 HF0
 go_upto_region 7 with (fail)
 go_loopw [7,8] (fun v iv u=> ∃k:Nat,k≤lvN lev∧iv= .int .i64 ((k+1:Nat):Int)∧Hid (x4q w id (j3L x r id k) v u)) (fun _ iv _=>32- (intOf iv).toNat)
 case atStart=>exact⟨0,Nat.zero_le _,rfl,HIN⟩
 case round=>
  obtain⟨k,hk,rfl,hinv⟩:=hrel
  obtain⟨N,hF,hN,hE⟩:=hinv.out
  clear hinv HIN
  have hXl:=q3k x r id k
  obtain⟨X,hX⟩: ∃X,j3L x r id k=X:=⟨_,rfl⟩
  have hXI:isIds X:=by rw[←hX];exact q3r HII.out HD.out
  rw[hX]at hF hXl
  obtain⟨g,cap,cur,rfl,rfl,hc⟩:=hF.full (by omega)
  have HFX:=hD hF
  have HXI:Hid (isIds X∧X.length≤1000000):=⟨hXI,by have:=HN.out;have:=HRL.out;omega⟩
  have HGG:Hid (w.heap.size≤g∧w.heap.size≠g):=⟨(hN _ (mS.2 rfl)).1,(hN _ (mS.2 rfl)).2 _ mH⟩
  have EK:Hid (EnvX w wr [(g,oc cur 26),(w.heap.size,oc (j0d 32 id) 26)]):=hE
  clear hN hE hXI
  by_cases hlt:k<lvN lev
  · have HLE:Hid (decide (((k+1:Nat):Int)≤min lev 31)=true):=decide_eq_true (by unfold lvN at hlt;omega)
    have HKL:Hid (k+1≤lvN lev∧k+1≤31):=⟨hlt,by omega⟩
    have HC:=hD hc
    have HXL:=hD hXl
    have HXX:=hD hX
    have HFF:=hD hF
    have hb31:((k+1:Nat):Int)≤31:=by omega
    clear hc hXl hX hF hlt hk
    obtain⟨xl,hxl⟩: ∃xl,X.length=xl:=⟨_,rfl⟩
    have HXN:=hD hxl
    rw[hxl]
    clear hxl
    go_upto_region 7 with (fail)
    refine rgQ [0,1,2,3] [] EK rfl fun hw=>?_
    refine qw 2 hw ?_
    refine qv (v:= .int .i64 (min lev 31)) rfl (fun u hu=>q7e u rfl rfl) hw ?_
    refine qv rfl (fun u hu=>j4A u HLE.out rfl rfl) hw ?_
    refine enP fun u63 EX62=>?_
    by_cases hrk:k<r.length
    · have q3: ¬((k+1:Nat):Int)=(xl:Int):=by have:=HXN.out;have:=HXL.out;omega
      have HKX:Hid (k+1<xl):=by show _<_;have:=HXN.out;have:=HXL.out;omega
      obtain⟨cs,hcs,h5,h6⟩:=q5e (X:=X) (k:=k+1) HXI.out.1 HXN.out HD.out.1 HKX.out (by rw[←HXN.out];exact HC.out.1) HC.out.2.2.1 (by rw[←HXN.out];exact HC.out.2.2.2)
      have hset:=q9M (x:=x) (id:=id) hrk
      rw[HXX.out]at hset
      rw[hset]at h6
      have HLN:Hid ((j3L x r id (k+1)).length=xl):=by show _=_;rw[←hset,List.length_set];exact HXN.out
      have HCS:=hD hcs
      have HC5:=hD (And.intro h5 h6)
      have HCP:Hid (xl≤cap∧cap≤maxLen):=⟨by rw[←HXN.out];exact HC.out.1,HC.out.2.1⟩
      clear hcs h5 h6 hset hrk
      go_upto_region 11 with (fail)
      refine rgQ [0,1,2,3] [4] EX62 rfl fun hw=>?_
      refine qw 2 hw ?_
      refine qv rfl (fun u hu=>j1f u (j21 hu (mT mH) HD.out.1) rfl) hw ?_
      refine qv (v:= .pointer (some ⟨g,0+(k+1)*32,none⟩)) rfl (fun u hu=>j7W underlying35 aggIdT.size HKX.out u rfl rfl) hw ?_
      refine j0b<|(j33 rfl (g) (0+(k+1)*32) (.agg (j0d 32 id)) rfl rfl HGG.out.1 26 (cur) (cs) mH HCS.out.1 HCS.out.2.1 HCS.out.2.2.1 HCS.out.2.2.2 [(g,oc (cs) 26),(w.heap.size,oc (j0d 32 id) 26)] (mA ⟨.inl rfl,mA ⟨.inr ⟨(mT mH),HGG.out.2⟩,fun _ h=>by cases h⟩⟩) ?_)
      refine fun _=>enL fun u104 EX103=>?_
      have HNX:Hid (x4q w id (j3L x r id (k+1)) (.slice (some ⟨g,0,none⟩) xl cap) u104):=by
       refine⟨[(g,oc cs 26)], .inl ⟨g,cap,cs,by rw[HLN.out],rfl,by rw[HLN.out];exact HCP.out.1,HCP.out.2,HC5.out.1,by rw[HLN.out];exact HC5.out.2⟩,fun y hy=>?_,EX103.out⟩
       cases mS.1 hy
       exact⟨HGG.out.1,fun z hz=>by cases mS.1 hz;exact HGG.out.2⟩
      go_wp2
      go_roundw
      case rel=>exact⟨k+1,HKL.out.1,by go_num,HNX⟩
      case measure=>simp[intOf];have:=HKL.out.2;omega
    · obtain rfl:xl=k+1:=by have:=HXN.out;have:=HXL.out;omega
      have happ:=q9n (x:=x) (id:=id) (show r.length≤k by omega)
      rw[HXX.out]at happ
      have HAPP:=hD happ
      have HFX:Hid (FreshI X (.slice (some ⟨g,0,none⟩) (k+1) cap) [(g,oc cur 26)]):=by
       have h:=HFF.out
       rw[HXN.out]at h
       exact h
      clear happ hrk
      go_upto_region 10 with (fail)
      refine rgQ [0,1] [2,3,4] EX62 rfl fun hw=>?_
      refine qo rfl hw ?_
      refine qv rfl (fun u hu=>j1f u (j21 hu (mT mH) HD.out.1) rfl) hw ?_
      refine j0b<|(j0k (R:=q1o id) (M0:=[(g,oc cur 26),(w.heap.size,oc (j0d 32 id) 26)]) rfl rfl (fun _ h=>h) (fun u hu=>j47 HD.out.1 rfl u) ?_)
      rintro _ _ ⟨gq,rfl,rfl⟩ hf he102;intro K' hK';go_big_quiet_op;go_big_quiet_on
      clear hf
      change j1E _ _ _ _ _ _ [(gq,oc (j0d 32 id) 26),(g,oc cur 26),(w.heap.size,oc (j0d 32 id) 26)]
      refine(j03 (gd:=none) (R:=q3U w (X++[id]) [(w.heap.size,oc (j0d 32 id) 26)]) rfl rfl rfl rfl (fun u hu=>q11 [(w.heap.size,oc (j0d 32 id) 26)] hu HXI.out.1 HD.out.1 HFX.out (mA ⟨⟨(mT mH),HGG.out.1⟩,fun _ h=>by cases h⟩) mH (mA ⟨⟨(mT (mT mH)),fun y hy=>by cases mS.1 hy;exact HGG.out.2⟩,fun _ h=>by cases h⟩) HXI.out.2 rfl rfl) ?_)
      rintro x9 M' ⟨N9,rfl,hF9,hn9⟩ he103;intro K' hK';go_big_quiet_op;go_big_quiet_on
      have HF9:=hD (And.intro hF9 hn9)
      clear hF9 hn9
      refine phE [4] [] he103 fun hw=>?_
      refine qo rfl hw ?_
      refine enP fun u106 EX105=>?_
      have HNX:Hid (x4q w id (j3L x r id (k+1)) x9 u106):=⟨N9,by rw[←HAPP.out];exact HF9.out.1,HF9.out.2,EX105.out⟩
      go_wp2
      go_roundw
      case rel=>exact⟨k+1,HKL.out.1,by go_num,HNX⟩
      case measure=>simp[intOf];have:=HKL.out.2;omega
  · obtain rfl:k=lvN lev:=by omega
    have HO:Hid (OwnI wr w.heap.size (.slice (some ⟨g,0,none⟩) X.length cap) (j3L x r id (lvN lev))∧Below w.heap.size w wr):=by
      rw[hX]
      exact⟨hF.own HXI.out.1 (fun y hy=>by cases mS.1 hy;exact⟨HGG.out.1,EnvX.box EK.out _ _ mH⟩),EnvX.bel EK.out⟩
    have HLE:Hid (decide (((lvN lev+1:Nat):Int)≤min lev 31)=false):=decide_eq_false (by unfold lvN;omega)
    have HXX:=hD hX
    have HCX:=hD hc
    clear hF hc hXl hX
    generalize X.length=xl at *
    go_upto_region 7 with (fail)
    refine rgQ [0,1,2,3] [] EK rfl fun hw=>?_
    refine qw 2 hw ?_
    refine qv (v:= .int .i64 (min lev 31)) rfl (fun u hu=>q7e u rfl rfl) hw ?_
    refine qv rfl (fun u hu=>j4A u HLE.out rfl rfl) hw ?_
    refine enP fun u163 EX162=>?_
    have HO2:Hid (OwnI u163 w.heap.size (.slice (some ⟨g,0,none⟩) xl cap) (j3L x r id (lvN lev))∧Below w.heap.size w u163):=by
      refine⟨?_,EnvX.bel EX162.out⟩
      rw[HXX.out]
      exact HFX.out.own HXI.out.1 (fun y hy=>by cases mS.1 hy;exact⟨HGG.out.1,EnvX.box EX162.out _ _ mH⟩)
    go_wp2
    go_ret
    exact⟨⟨_,rfl,HO2.out.1⟩,HO2.out.2⟩
theorem q6w(l:List (List Int))(id:List Int)(lev:Int)(A:Option Addr)(n c:Nat)(w:World)(hl:l.length=n)(hn:n≤1000000)(hlev:I64 lev)(hI:isIds l)(hid:j3C id)(hA:IdsIn w w.heap.size A l):
   Calls Tryz.prog 124 #[.slice A n c,idv id, .int .i64 lev] w fun e w'=>(∃v,e= .returned v∧OwnI w' w.heap.size v (j5w l id lev))∧Below w.heap.size w w':=by
 by_cases k1:32<n
 · exact j8j l id lev A n c w hl hn hlev hI hid hA k1
 · match l,hl,hI,hA with
   |[],hl,_,_=>
    subst hl
    exact j8k id lev A c w hid
   |x::r,hl,hI,hA=>exact j8e x r (x::r) rfl id lev A n c w hl hn hlev hI hid hA (by omega)
theorem q0N(t:Tot)(w:World)(h:okT t):
  Calls Tryz.prog 166 #[j3j t] w fun e w'=>(∃v,e= .returned v∧OwnB w' w.heap.size v (j3D t))∧Below w.heap.size w w':=by
 have HL:Hid (j2z t):=h.len
 have HU:Hid (q6o t.n<18446744073709551616∧IntKind.u64.wrap t.n=((q6o t.n:Nat):Int)):=by
  unfold q6o
  rw[IntKind.wrap_u64]
  exact⟨by omega,by omega⟩
 have HR:Hid (∀x∈t.h,0≤x∧x≤255):=h.1.2
 have HR2:Hid (∀x∈j3J (j1b t.w),0≤x∧x≤255):=fun x hx=>j6d h x (mR (mL hx))
 have E1:Hid (EnvX w (w.alloc (.cells (j0E t) 61)) [(w.heap.size,oc (j0E t) 61)]):=(EnvX.start w).new _
 have HBY:Hid (Rt w 111 #[.agg (wcs t.w)] (.agg (j0d 32 (j3J (j1b t.w))))):=fun u _=>j93 t.w u
 have HPT:Hid (∀u,EnvX w u []→Calls Tryz.prog 113 #[.int .u64 ((q6o t.n:Nat):Int), .int .i64 4] u fun e w'=>(∃v,e= .returned v∧OwnB w' u.heap.size v (j2O (q6o t.n) 4))∧Below u.heap.size u w'):=fun u _=>q1J (q6o t.n) 4 u HU.out.1 (by omega)
 have HCC:Hid (∀u g,EnvX w u []→Parts u u.heap.size (some ⟨g,0,none⟩) [t.h,j3J (j1b t.w),j2O (q6o t.n) 4]→Calls Tryz.prog 112 #[.slice (some ⟨g,0,none⟩) 3 3] u fun e w'=>(∃v,e= .returned v∧w'.ownsRow u.heap.size 5 1 v 68 ((j3D t).map u8v))∧Below u.heap.size u w'):=fun u g _ hP=>by
  have hf:([t.h,j3J (j1b t.w),j2O (q6o t.n) 4]:List (List Int)).flatten=j3D t:=by simp[j3D]
  have hl:=j1l h.len
  have k:=j8T (some ⟨g,0,none⟩) 3 3 _ u rfl hP (by omega) (by rw[hf,hl];omega) (by rw[hf,hl];omega)
  rw[hf]at k
  unfold OwnB at k
  rwa[hl]at k
 have HZ:Hid ((j0d 32 (j3J (j1b t.w))).size=32):=j0c _ _ (by rw[j2w];omega)
 clear h
 unfold j3j
 go_enter func166,ntmps166
 go_upto_region 1 with (fail)
 generalize w.alloc (.cells (j0E t) 61)=W at *
 refine rgQ [0,1,2] [3,4] E1 rfl fun hw=>?_
 refine qo rfl hw ?_
 refine ql rfl mH HL.out hw ?_
 refine qc rfl func111 (fun u hu=>HBY.out u (nl hu)) hw ?_
 refine j0b<|qn rfl (q0m _) fun g3 HG3 he2=>?_
 change j1E _ _ _ _ _ _ [(g3,oc (j0d 32 []) 26),(w.heap.size,oc (j0E t) 61)]
 refine(sh rfl HG3 (j08 _ HZ.out) ((j0c _ _ (by simp)).trans HZ.out.symm) (j0Q _ _) ?_)
 refine fun _=>enL fun u5 EX4=>?_
 go_upto_region 2 with (fail)
 refine rgK [0,1,2,3,4,5] 4 EX4 rfl fun hw=>?_
 refine qo rfl hw ?_
 refine qv (v:= .slice (some ⟨w.heap.size,0,none⟩) 32 32) rfl (fun u hu=>j1R u rfl) hw ?_
 refine qv (v:= .slice (some ⟨g3,0,none⟩) 32 32) rfl (fun u hu=>j1R u rfl) hw ?_
 refine qo rfl hw ?_
 refine ql rfl (mT mH) HL.out hw ?_
 refine qv (v:= .int .u64 ((q6o t.n:Nat):Int)) rfl (fun u hu=>j2C u HU.out.2 rfl) hw ?_
 refine j0b<|aO 6 (qr (R:=FreshR 5 1 4 ((j2O (q6o t.n) 4).map u8v)) rfl func113 (fun u hu=>by have h:=j0i (HPT.out u (nl hu));rw[j0S]at h;exact h) ?_)
 rintro x N hF hf he7
 obtain⟨gp,capp,curp,rfl,rfl,hcp⟩|⟨_,_,h0,_⟩:=hF
 case inr=>cases h0
 have HCP:=hD hcp
 clear hcp
 clear hf
 change j1s _ _ _ _ _ _ _ _ [(gp,oc curp 5),(g3,oc (j0d 32 (j3J (j1b t.w))) 26),(w.heap.size,oc (j0E t) 61)]
 refine aO 7 (j0k (R:=fun v N=> ∃g,v= .slice (some ⟨g,0,none⟩) 3 3∧N=[(g,oc #[.slice (some ⟨w.heap.size,0,none⟩) 32 32, .slice (some ⟨g3,0,none⟩) 32 32, .slice (some ⟨gp,0,none⟩) 4 capp] 100)]) (M0:=[(gp,oc curp 5),(g3,oc (j0d 32 (j3J (j1b t.w))) 26),(w.heap.size,oc (j0E t) 61)]) rfl rfl (fun _ h=>h) (fun u hu=>j5V rfl rfl rfl u) ?_)
 rintro _ _ ⟨gr,rfl,rfl⟩ hf he8;intro K' hK';go_big_quiet_op;go_big_quiet_on
 clear hf
 change j1s _ _ _ _ _ _ _ _ [(gr,oc #[.slice (some ⟨w.heap.size,0,none⟩) 32 32, .slice (some ⟨g3,0,none⟩) 32 32, .slice (some ⟨gp,0,none⟩) 4 capp] 100),(gp,oc curp 5),(g3,oc (j0d 32 (j3J (j1b t.w))) 26),(w.heap.size,oc (j0E t) 61)]
 refine aO 8 (qr (R:=FreshR 5 1 68 ((j3D t).map u8v)) rfl func112 (fun u hu=>j0i (HCC.out u gr (nl hu) (j4i (EnvX.lt hu mH) (by rw[show t.h.length=32 from HL.out];have h:=j0n (k:=0) hu mH rfl;exact h) (j3s (EnvX.lt hu (mT (mT (mT mH)))) (j1p hu (mT (mT (mT mH))) (x4K HL.out))) HR.out (by rw[j2w];have h:=j0n (k:=1) hu mH rfl;exact h) (j3s (EnvX.lt hu (mT (mT mH))) (j1p hu (mT (mT mH)) (x4C t.w))) HR2.out (by rw[j0S];have h:=j0n (k:=2) hu mH rfl;exact h) (j06 hu (mT mH) (j0S _ _) HCP.out) (j2N _ 4)))) ?_)
 rintro x N hF hf he9
 obtain⟨gc,capc,curc,rfl,rfl,hcc⟩|⟨_,_,h0,_⟩:=hF
 case inr=>cases h0
 have HCC2:=hD hcc
 have HGC:=hD (hf _ (mS.2 rfl))
 clear hcc
 clear hf
 refine phF [9] 0 rfl he9 fun hw=>?_
 refine qo rfl hw ?_
 refine eH fun u12 EX11=>?_
 go_wp2
 go_ret
 refine⟨⟨_,rfl,?_⟩,EnvX.bel EX11.out⟩
 have hl:(j3D t).length=68:=j1l HL.out
 unfold OwnB
 rw[hl]
 exact⟨by rw[lM,hl], .inr ⟨gc,capc,curc,rfl,HGC.out.1,EnvX.box EX11.out _ _ mH,HCC2.out⟩⟩
theorem q0E(a b:Tot)(w:World)(ha:okT a)(hb:okT b)(ht:Tables w):
   Rz 109 #[j3j a,j3j b] w (j3j (j2t a b)):=by
 unfold Rz
 have HA:Hid (j2z a):=ha.len
 have HB:Hid (j2z b):=hb.len
 have HBA:=hD (j6d ha)
 have HBB:=hD (j6d hb)
 have HJ:Hid (okT (j2t a b)):=join_ok
 have HADD:Hid (Rt w 165 #[.agg (wcs a.w), .agg (wcs b.w)] (.tuple #[.agg (wcs ((a.w+b.w) % Big)), .bool (decide (a.w+b.w<Big))])):=fun u _=>j9G a.w b.w u (by have:=ha.2.1;exact this) (by have:=hb.2.1;exact this)
 have HHA:Hid (∀u,EnvX w u []→Calls Tryz.prog 166 #[j3j a] u fun e w'=>(∃v,e= .returned v∧w'.ownsRow u.heap.size 5 1 v 68 ((j3D a).map u8v))∧Below u.heap.size u w'):=fun u _=>by have h:=q0N a u ha;unfold OwnB at h;rwa[j1l ha.len]at h
 have HHB:Hid (∀u,EnvX w u []→Calls Tryz.prog 166 #[j3j b] u fun e w'=>(∃v,e= .returned v∧w'.ownsRow u.heap.size 5 1 v 68 ((j3D b).map u8v))∧Below u.heap.size u w'):=fun u _=>by have h:=q0N b u hb;unfold OwnB at h;rwa[j1l hb.len]at h
 have HOF:Hid (∀u g,EnvX w u []→Parts u u.heap.size (some ⟨g,0,none⟩) [[3],j3D a,j3D b]→Calls Tryz.prog 65 #[.slice (some ⟨g,0,none⟩) 3 3] u fun e w'=>e= .returned (idv (j2t a b).h)∧Below u.heap.size u w'):=fun u g hE hP=>by
   have h:=j4a (some ⟨g,0,none⟩) 3 3 [[3],j3D a,j3D b] u rfl hP (by omega) (by simp[j1l ha.len,j1l hb.len]) (ht.below hE.bel)
   have e:([[3],j3D a,j3D b]:List (List Int)).flatten=3::(j3D a++j3D b):=by simp
   rw[e]at h
   exact h
 have HLE:Hid (w.heap.size≤w.heap.size+1+1):=by show _≤_;omega
 have E1:Hid (EnvX w (((w.alloc (.cells (j0E a) 61)).alloc (.cells (j0E b) 61)).alloc (.cells (j0E j3i) 61)) [(w.heap.size+1+1,oc (j0E j3i) 61),(w.heap.size+1,oc (j0E b) 61),(w.heap.size,oc (j0E a) 61)]):=EnvX.three _ _ _
 clear ha hb ht
 unfold j3j
 go_enter func109,ntmps109
 go_upto_region 1 with (fail)
 rw[j3R]
 generalize ((w.alloc (.cells (j0E a) 61)).alloc (.cells (j0E b) 61)).alloc (.cells (j0E j3i) 61)=W at *
 refine rgQ [0,1,2,3,4,5,6,7] [8,9,10] E1 rfl fun hw=>?_
 refine qo rfl hw ?_
 refine ql rfl (mT (mT mH)) HA.out hw ?_
 refine qo rfl hw ?_
 refine ql rfl (mT mH) HB.out hw ?_
 refine qc rfl func165 (fun u hu=>HADD.out u (nl hu)) hw ?_
 refine qw 3 hw ?_
 refine j0b<|qn rfl (j65 _) fun g5 HG5 he2=>?_
 change j1E _ _ _ _ _ _ [(g5,oc (wcs 0) 32),(w.heap.size+1+1,oc (j0E j3i) 61),(w.heap.size+1,oc (j0E b) 61),(w.heap.size,oc (j0E a) 61)]
 refine(sh rfl HG5 (j0w _) ((j0s _).trans (j0s _).symm) (j1v _) ?_)
 intro he3
 refine phE [10] [] he3 fun hw=>?_
 refine qo rfl hw ?_
 refine enP fun u6 EX5=>?_
 go_upto_region 2 with (fail)
 refine rgK [1,3,7,8,9,10,11,12] 7 EX5 rfl fun hw=>?_
 refine ql rfl (mT (mT (mT mH))) HA.out hw ?_
 refine ql rfl (mT (mT mH)) HB.out hw ?_
 refine qv rfl (fun u hu=>j0a u (j61 hu mH) rfl) hw ?_
 refine qo rfl hw ?_
 refine ql rfl (mT (mT (mT mH))) HA.out hw ?_
 refine qo rfl hw ?_
 refine ql rfl (mT (mT mH)) HB.out hw ?_
 refine qv (v:= .int .i64 (IntKind.i64.wrap (a.n+b.n))) rfl (fun u hu=>x2U u rfl rfl) hw ?_
 refine j0b<|j2L (i:=0) (j:=2) (by kernel_rfl) ?_ ?_
 · skip
   refine(j0k (R:=fun v N=> ∃g,v= .slice (some ⟨g,0,none⟩) 1 1∧N=[(g,oc #[.int .u8 3] 5)]) (M0:=[(g5,oc (wcs ((a.w+b.w) % Big)) 32),(w.heap.size+1+1,oc (j0E j3i) 61),(w.heap.size+1,oc (j0E b) 61),(w.heap.size,oc (j0E a) 61)]) rfl rfl (fun _ h=>h) (fun u hu=>j39 3 u) ?_)
   rintro _ _ ⟨gt,rfl,rfl⟩ hf he8;intro K' hK';go_big_quiet_op;go_big_quiet_on
   clear hf
   change j1s _ _ _ _ _ _ _ _ [(gt,oc #[.int .u8 3] 5),(g5,oc (wcs ((a.w+b.w) % Big)) 32),(w.heap.size+1+1,oc (j0E j3i) 61),(w.heap.size+1,oc (j0E b) 61),(w.heap.size,oc (j0E a) 61)]
   refine aO 2 (qr rfl func166 (fun u hu=>j0i (HHA.out u (nl hu))) ?_)
   rintro x N hF hf he9
   obtain⟨ga,capga,curga,rfl,rfl,hcga⟩|⟨_,_,h0,_⟩:=hF
   case inr=>cases h0
   have HCga:=hD hcga
   clear hcga
   clear hf
   change j1s _ _ _ _ _ _ _ _ [(ga,oc curga 5),(gt,oc #[.int .u8 3] 5),(g5,oc (wcs ((a.w+b.w) % Big)) 32),(w.heap.size+1+1,oc (j0E j3i) 61),(w.heap.size+1,oc (j0E b) 61),(w.heap.size,oc (j0E a) 61)]
   refine aO 4 (qr rfl func166 (fun u hu=>j0i (HHB.out u (nl hu))) ?_)
   rintro x N hF hf he10
   obtain⟨gb,capgb,curgb,rfl,rfl,hcgb⟩|⟨_,_,h0,_⟩:=hF
   case inr=>cases h0
   have HCgb:=hD hcgb
   clear hcgb
   clear hf
   change j1s _ _ _ _ _ _ _ _ [(gb,oc curgb 5),(ga,oc curga 5),(gt,oc #[.int .u8 3] 5),(g5,oc (wcs ((a.w+b.w) % Big)) 32),(w.heap.size+1+1,oc (j0E j3i) 61),(w.heap.size+1,oc (j0E b) 61),(w.heap.size,oc (j0E a) 61)]
   refine aO 5 (j0k (R:=fun v N=> ∃g,v= .slice (some ⟨g,0,none⟩) 3 3∧N=[(g,oc #[.slice (some ⟨gt,0,none⟩) 1 1, .slice (some ⟨ga,0,none⟩) 68 capga, .slice (some ⟨gb,0,none⟩) 68 capgb] 100)]) (M0:=[(gb,oc curgb 5),(ga,oc curga 5),(gt,oc #[.int .u8 3] 5),(g5,oc (wcs ((a.w+b.w) % Big)) 32),(w.heap.size+1+1,oc (j0E j3i) 61),(w.heap.size+1,oc (j0E b) 61),(w.heap.size,oc (j0E a) 61)]) rfl rfl (fun _ h=>h) (fun u hu=>j5V rfl rfl rfl u) ?_)
   rintro _ _ ⟨gr,rfl,rfl⟩ hf he11;intro K' hK';go_big_quiet_op;go_big_quiet_on
   clear hf
   refine phF [6,13] 1 rfl he11 fun hw=>?_
   refine qc rfl func65 (fun u hu=>HOF.out u gr (nl hu) (j4i (EnvX.lt hu mH) (by have h:=j0n (k:=0) hu mH rfl;exact h) (j06 (cap:=1) hu (mT (mT (mT mH))) rfl ⟨by decide,by decide,rfl,rfl⟩) (by intro x hx;cases mS.1 hx;omega) (by rw[j1l HA.out];have h:=j0n (k:=1) hu mH rfl;exact h) (j06 hu (mT (mT mH)) (j1l HA.out) HCga.out) HBA.out (by rw[j1l HB.out];have h:=j0n (k:=2) hu mH rfl;exact h) (j06 hu (mT mH) (j1l HB.out) HCgb.out) HBB.out)) hw ?_
   refine qv (v:= .agg (j0E (j2t a b))) rfl (fun u hu=>j0p u (j5s (h:=(j2t a b).h) HJ.out.len)) hw ?_
   refine j0b<|aO 14 (so rfl HLE.out (mT (mT (mT (mT (mT mH))))) (j2B _ (j0Z HJ.out.len)) ((by decide+kernel:(j0E j3i).size=37).trans (j0Z HJ.out.len).symm) (j3G _) ?_)
   intro he13
   refine eM fun u15 EX14=>?_
   have Q0:=hD (EnvX.box EX14.out _ _ mH)
   have HBEL:=hD EX14.out.bel
   clear EX14
   go_wp2_with ((with_reducible refine bodyPost_ret (v:= .agg (j0E (j2t a b))) ?_ ?_ ?_);(exact results_cell_row (p:=4) (ty:=61) results109 _ _ (w.heap.size+1+1) 61 (j0E (j2t a b)) (0,0) _ rfl Q0.out underlying61 rfl (j2B _ (j0Z HJ.out.len)));(rfl))
   exact HBEL.out
 · skip
   refine qr rfl func166 (fun u hu=>j0i (HHA.out u (nl hu))) ?_
   rintro x N hF hf he16
   obtain⟨ga,capga,curga,rfl,rfl,hcga⟩|⟨_,_,h0,_⟩:=hF
   case inr=>cases h0
   have HCga:=hD hcga
   clear hcga
   clear hf
   change j1s _ _ _ _ _ _ _ _ [(ga,oc curga 5),(g5,oc (wcs ((a.w+b.w) % Big)) 32),(w.heap.size+1+1,oc (j0E j3i) 61),(w.heap.size+1,oc (j0E b) 61),(w.heap.size,oc (j0E a) 61)]
   refine j2L (i:=0) (j:=4) (by kernel_rfl) ?_ ?_
   · skip
     refine(j0k (R:=fun v N=> ∃g,v= .slice (some ⟨g,0,none⟩) 1 1∧N=[(g,oc #[.int .u8 3] 5)]) (M0:=[(ga,oc curga 5),(g5,oc (wcs ((a.w+b.w) % Big)) 32),(w.heap.size+1+1,oc (j0E j3i) 61),(w.heap.size+1,oc (j0E b) 61),(w.heap.size,oc (j0E a) 61)]) rfl rfl (fun _ h=>h) (fun u hu=>j39 3 u) ?_)
     rintro _ _ ⟨gt,rfl,rfl⟩ hf he17;intro K' hK';go_big_quiet_op;go_big_quiet_on
     clear hf
     change j1s _ _ _ _ _ _ _ _ [(gt,oc #[.int .u8 3] 5),(ga,oc curga 5),(g5,oc (wcs ((a.w+b.w) % Big)) 32),(w.heap.size+1+1,oc (j0E j3i) 61),(w.heap.size+1,oc (j0E b) 61),(w.heap.size,oc (j0E a) 61)]
     refine aO 4 (qr rfl func166 (fun u hu=>j0i (HHB.out u (nl hu))) ?_)
     rintro x N hF hf he18
     obtain⟨gb,capgb,curgb,rfl,rfl,hcgb⟩|⟨_,_,h0,_⟩:=hF
     case inr=>cases h0
     have HCgb:=hD hcgb
     clear hcgb
     clear hf
     change j1s _ _ _ _ _ _ _ _ [(gb,oc curgb 5),(gt,oc #[.int .u8 3] 5),(ga,oc curga 5),(g5,oc (wcs ((a.w+b.w) % Big)) 32),(w.heap.size+1+1,oc (j0E j3i) 61),(w.heap.size+1,oc (j0E b) 61),(w.heap.size,oc (j0E a) 61)]
     refine aO 5 (j0k (R:=fun v N=> ∃g,v= .slice (some ⟨g,0,none⟩) 3 3∧N=[(g,oc #[.slice (some ⟨gt,0,none⟩) 1 1, .slice (some ⟨ga,0,none⟩) 68 capga, .slice (some ⟨gb,0,none⟩) 68 capgb] 100)]) (M0:=[(gb,oc curgb 5),(gt,oc #[.int .u8 3] 5),(ga,oc curga 5),(g5,oc (wcs ((a.w+b.w) % Big)) 32),(w.heap.size+1+1,oc (j0E j3i) 61),(w.heap.size+1,oc (j0E b) 61),(w.heap.size,oc (j0E a) 61)]) rfl rfl (fun _ h=>h) (fun u hu=>j5V rfl rfl rfl u) ?_)
     rintro _ _ ⟨gr,rfl,rfl⟩ hf he19;intro K' hK';go_big_quiet_op;go_big_quiet_on
     clear hf
     refine phF [6,13] 1 rfl he19 fun hw=>?_
     refine qc rfl func65 (fun u hu=>HOF.out u gr (nl hu) (j4i (EnvX.lt hu mH) (by have h:=j0n (k:=0) hu mH rfl;exact h) (j06 (cap:=1) hu (mT (mT mH)) rfl ⟨by decide,by decide,rfl,rfl⟩) (by intro x hx;cases mS.1 hx;omega) (by rw[j1l HA.out];have h:=j0n (k:=1) hu mH rfl;exact h) (j06 hu (mT (mT (mT mH))) (j1l HA.out) HCga.out) HBA.out (by rw[j1l HB.out];have h:=j0n (k:=2) hu mH rfl;exact h) (j06 hu (mT mH) (j1l HB.out) HCgb.out) HBB.out)) hw ?_
     refine qv (v:= .agg (j0E (j2t a b))) rfl (fun u hu=>j0p u (j5s (h:=(j2t a b).h) HJ.out.len)) hw ?_
     refine j0b<|aO 14 (so rfl HLE.out (mT (mT (mT (mT (mT mH))))) (j2B _ (j0Z HJ.out.len)) ((by decide+kernel:(j0E j3i).size=37).trans (j0Z HJ.out.len).symm) (j3G _) ?_)
     intro he21
     refine eM fun u23 EX22=>?_
     have Q0:=hD (EnvX.box EX22.out _ _ mH)
     have HBEL:=hD EX22.out.bel
     clear EX22
     go_wp2_with ((with_reducible refine bodyPost_ret (v:= .agg (j0E (j2t a b))) ?_ ?_ ?_);(exact results_cell_row (p:=4) (ty:=61) results109 _ _ (w.heap.size+1+1) 61 (j0E (j2t a b)) (0,0) _ rfl Q0.out underlying61 rfl (j2B _ (j0Z HJ.out.len)));(rfl))
     exact HBEL.out
   · skip
     refine qr rfl func166 (fun u hu=>j0i (HHB.out u (nl hu))) ?_
     rintro x N hF hf he24
     obtain⟨gb,capgb,curgb,rfl,rfl,hcgb⟩|⟨_,_,h0,_⟩:=hF
     case inr=>cases h0
     have HCgb:=hD hcgb
     clear hcgb
     clear hf
     change j1s _ _ _ _ _ _ _ _ [(gb,oc curgb 5),(ga,oc curga 5),(g5,oc (wcs ((a.w+b.w) % Big)) 32),(w.heap.size+1+1,oc (j0E j3i) 61),(w.heap.size+1,oc (j0E b) 61),(w.heap.size,oc (j0E a) 61)]
     refine aO 0 (j0k (R:=fun v N=> ∃g,v= .slice (some ⟨g,0,none⟩) 1 1∧N=[(g,oc #[.int .u8 3] 5)]) (M0:=[(gb,oc curgb 5),(ga,oc curga 5),(g5,oc (wcs ((a.w+b.w) % Big)) 32),(w.heap.size+1+1,oc (j0E j3i) 61),(w.heap.size+1,oc (j0E b) 61),(w.heap.size,oc (j0E a) 61)]) rfl rfl (fun _ h=>h) (fun u hu=>j39 3 u) ?_)
     rintro _ _ ⟨gt,rfl,rfl⟩ hf he25;intro K' hK';go_big_quiet_op;go_big_quiet_on
     clear hf
     change j1s _ _ _ _ _ _ _ _ [(gt,oc #[.int .u8 3] 5),(gb,oc curgb 5),(ga,oc curga 5),(g5,oc (wcs ((a.w+b.w) % Big)) 32),(w.heap.size+1+1,oc (j0E j3i) 61),(w.heap.size+1,oc (j0E b) 61),(w.heap.size,oc (j0E a) 61)]
     refine aO 5 (j0k (R:=fun v N=> ∃g,v= .slice (some ⟨g,0,none⟩) 3 3∧N=[(g,oc #[.slice (some ⟨gt,0,none⟩) 1 1, .slice (some ⟨ga,0,none⟩) 68 capga, .slice (some ⟨gb,0,none⟩) 68 capgb] 100)]) (M0:=[(gt,oc #[.int .u8 3] 5),(gb,oc curgb 5),(ga,oc curga 5),(g5,oc (wcs ((a.w+b.w) % Big)) 32),(w.heap.size+1+1,oc (j0E j3i) 61),(w.heap.size+1,oc (j0E b) 61),(w.heap.size,oc (j0E a) 61)]) rfl rfl (fun _ h=>h) (fun u hu=>j5V rfl rfl rfl u) ?_)
     rintro _ _ ⟨gr,rfl,rfl⟩ hf he26;intro K' hK';go_big_quiet_op;go_big_quiet_on
     clear hf
     refine phF [6,13] 1 rfl he26 fun hw=>?_
     refine qc rfl func65 (fun u hu=>HOF.out u gr (nl hu) (j4i (EnvX.lt hu mH) (by have h:=j0n (k:=0) hu mH rfl;exact h) (j06 (cap:=1) hu (mT mH) rfl ⟨by decide,by decide,rfl,rfl⟩) (by intro x hx;cases mS.1 hx;omega) (by rw[j1l HA.out];have h:=j0n (k:=1) hu mH rfl;exact h) (j06 hu (mT (mT (mT mH))) (j1l HA.out) HCga.out) HBA.out (by rw[j1l HB.out];have h:=j0n (k:=2) hu mH rfl;exact h) (j06 hu (mT (mT mH)) (j1l HB.out) HCgb.out) HBB.out)) hw ?_
     refine qv (v:= .agg (j0E (j2t a b))) rfl (fun u hu=>j0p u (j5s (h:=(j2t a b).h) HJ.out.len)) hw ?_
     refine j0b<|aO 14 (so rfl HLE.out (mT (mT (mT (mT (mT mH))))) (j2B _ (j0Z HJ.out.len)) ((by decide+kernel:(j0E j3i).size=37).trans (j0Z HJ.out.len).symm) (j3G _) ?_)
     intro he28
     refine eM fun u30 EX29=>?_
     have Q0:=hD (EnvX.box EX29.out _ _ mH)
     have HBEL:=hD EX29.out.bel
     clear EX29
     go_wp2_with ((with_reducible refine bodyPost_ret (v:= .agg (j0E (j2t a b))) ?_ ?_ ?_);(exact results_cell_row (p:=4) (ty:=61) results109 _ _ (w.heap.size+1+1) 61 (j0E (j2t a b)) (0,0) _ rfl Q0.out underlying61 rfl (j2B _ (j0Z HJ.out.len)));(rfl))
     exact HBEL.out
theorem q0h(h:List Int)(n:Nat)(w:World)(hh:h.length=32∧ ∀b∈h,0≤b∧b≤255)(hn:n<Big):
  Rz 105 #[idv h, .agg (wcs n)] w (j3j ⟨h,n,1⟩):=by
 unfold Rz
 have HH:=hD hh
 have HO:Hid (j2z ⟨h,n,1⟩):=hh.1
 have HLE:Hid (w.heap.size≤w.heap.size+1+1):=by show _≤_;omega
 have E1:Hid (EnvX w (((w.alloc (.cells (j0d 32 h) 26)).alloc (.cells (wcs n) 32)).alloc (.cells (j0E j3i) 61)) [(w.heap.size+1+1,oc (j0E j3i) 61),(w.heap.size+1,oc (wcs n) 32),(w.heap.size,oc (j0d 32 h) 26)]):=EnvX.three _ _ _
 clear hh hn
 unfold j3j idv
 go_enter func105,ntmps105
 go_upto_region 1 with (fail)
 rw[j3R]
 generalize ((w.alloc (.cells (j0d 32 h) 26)).alloc (.cells (wcs n) 32)).alloc (.cells (j0E j3i) 61)=W at *
 refine rgQ [0,1,2] [3] E1 rfl fun hw=>?_
 refine qv rfl (fun u hu=>j1f u (j21 hu (mT (mT mH)) HH.out.1) rfl) hw ?_
 refine qv rfl (fun u hu=>j0a u (j61 hu (mT mH)) rfl) hw ?_
 refine qv (v:= .agg (j0E ⟨h,n,1⟩)) rfl (fun u hu=>j0p u (j5s HH.out.1)) hw ?_
 refine j0b<|(so rfl HLE.out mH (j2B _ (j0Z HO.out)) (zTot_size.trans (j0Z HO.out).symm) (j3G _) ?_)
 refine fun _=>enL fun u4 EX3=>?_
 have Q0:=hD (EnvX.box EX3.out _ _ mH)
 have HBEL:=hD EX3.out.bel
 clear EX3
 go_wp2_with ((with_reducible refine bodyPost_ret (v:= .agg (j0E ⟨h,n,1⟩)) ?_ ?_ ?_);(exact results_cell_row (p:=4) (ty:=61) results105 _ _ (w.heap.size+1+1) 61 (j0E ⟨h,n,1⟩) (0,0) _ rfl Q0.out underlying61 rfl (j2B _ (j0Z HO.out)));(rfl))
 exact HBEL.out
def jlT(d:Tot→Tot→Bool):Tot→List Tot→List Tot
  |x,[]=>[x]
  |x,y::r=>if d y x=true then jlT d (j2t y x) r else x::y::r
theorem q3S: ∀(r:List Tot)(x:Tot),jlT (fun a b=>decide (a.n=b.n)) x r=j5f x r
 |[],x=>rfl
 |y::r,x=>by
  unfold jlT j5f
  by_cases h:x.n=y.n
  · rw[if_pos (decide_eq_true h.symm),if_pos h,q3S r]
  · rw[if_neg (fun e=>h (of_decide_eq_true e).symm),if_neg h]
theorem x3Q: ∀(r:List Tot)(x:Tot),jlT (fun _ _=>true) x r=[upT x r]
 |[],x=>rfl
 |y::r,x=>by
  unfold jlT upT
  rw[if_pos rfl,x3Q r]
section
variable {a:Act}{dst:Option Tmp}{x:Operand}{ty:TypeId}{pos:String}{after:Array Edge}{gd:Option (Nat × Bool)}
theorem q6G(u:World):FAt Tryz.prog ⟨dst, .buildSlice 38 0 #[],ty,pos,after,gd⟩ a (fun v N=> ∃g,v= .slice (some ⟨g,0,none⟩) 0 0∧N=[(g,oc #[] 61)]) u:=by
 have h:(execOp a.eval ⟨dst, .buildSlice 38 0 #[],ty,pos,after,gd⟩).run Tryz.prog u= .ok (.value (.slice (some ⟨u.heap.size,0,none⟩) 0 0)) (u.alloc (.cells #[] 61)):=by
  unfold execOp
  go_simp
 unfold FAt
 rw[h]
 refine⟨(Below.refl _ _).alloc (Nat.le_refl _) _,_,⟨_,rfl,rfl⟩,fun y hy=>?_⟩
 cases mS.1 hy
 exact⟨Nat.le_refl _,heap_alloc_new u _⟩
theorem q8z{A0:Option Addr}{n0 c0:Nat}(hx:a.eval x= .slice A0 n0 c0)(u:World):
  FAt Tryz.prog ⟨dst, .buildSlice 139 1 #[(0,x)],ty,pos,after,gd⟩ a (fun v N=> ∃g,v= .slice (some ⟨g,0,none⟩) 1 1∧N=[(g,oc #[.slice A0 n0 c0] 100)]) u:=by
 have h:(execOp a.eval ⟨dst, .buildSlice 139 1 #[(0,x)],ty,pos,after,gd⟩).run Tryz.prog u= .ok (.value (.slice (some ⟨u.heap.size,0,none⟩) 1 1)) (u.alloc (.cells #[.slice A0 n0 c0] 100)):=by
  unfold execOp
  simp only[List.map_toArray,List.map_cons,List.map_nil,hx]
  go_simp
 unfold FAt
 rw[h]
 refine⟨(Below.refl _ _).alloc (Nat.le_refl _) _,_,⟨_,rfl,rfl⟩,fun y hy=>?_⟩
 cases mS.1 hy
 exact⟨Nat.le_refl _,heap_alloc_new u _⟩
end
def JLeft(w0:World)(M0:j0e)(out:List Tot)(v:Value)(M':j0e):Prop:= ∃N,M'=N++M0∧FreshR 61 37 out.length (out.map j11).flatten v N∧j01 w0 N M0
def x3w(d:Tot→Tot→Bool)(w0:World)(M0:j0e)(out:List Tot)(B:Nat)(v:Value)(w':World):Prop:=
  ∃r x N,okTs (x::r)∧(jlT d x r).reverse=out∧r.length+1≤B∧FreshR 61 37 (r.length+1) (((x::r).reverse).map j11).flatten v N∧j01 w0 N M0∧EnvX w0 w' (N++M0)
theorem j52(p:List Tot)(A:Option Addr)(n c:Nat)(w:World)(hl:p.length=n)(hn:n≤1000000)(hI:okTs p)(hA:TotsIn w w.heap.size A p):
  Calls Tryz.prog 64 #[.slice A n c] w fun e w'=>(∃v,e= .returned v∧w'.ownsRow w.heap.size 61 37 v n (p.map j11).flatten)∧Below w.heap.size w w':=by
 have HPL:Hid ((p.map j11).flatten.length=n*37):=by show _=_;rw[j2x hI,hl]
 have HNB:Hid (n≤1000000):=hn
 have E1:Hid (EnvX w w []):=EnvX.start w
 have q22: ∀(w:World)(a:Option Addr)(n c n' c':Nat),(binOp .eql 38 (.slice a n c) (.slice none n' c')).run Tryz.prog w= .ok (.bool a.isNone) w:=fun w a n c n' c'=>Lib.run_eql_slice_nil w _ _ a n c n' c' underlying38
 cases A with
 | none=>
  obtain rfl:p=[]:=by
   refine List.eq_nil_of_length_eq_zero (Nat.eq_zero_of_not_pos fun hp=>?_)
   obtain⟨ad,e,_⟩:=hA.loads hI (k:=0) hp
   cases e
  subst hl
  clear hI hA HPL
  go_enter func64,ntmps64
  go_wp2
  go_ret
  exact⟨⟨_,rfl,World.ownsRow_nil _ _ _ _⟩,Below.refl _ _⟩
 |some ad=>
  have HA:Hid (CellsIn w w.heap.size (some ad) (p.map j11).flatten):=hA
  clear hI hA hl
  go_enter func64,ntmps64
  go_upto_region 3 with (fail)
  refine j07 (w0:=w) [0,1,2,3] [] rfl E1.out ?_
  refine(j0k (R:=fun v N=> ∃g,v= .slice (some ⟨g,0,none⟩) 0 0∧N=[(g,oc #[] 61)]) (M0:=[]) rfl rfl (fun _ h=>h) (fun u hu=>q6G u) ?_)
  rintro _ _ ⟨g0,rfl,rfl⟩ hf he1;intro K' hK';go_big_quiet_op;go_big_quiet_on
  have HG0:=hD (hf _ (mS.2 rfl))
  clear hf
  refine phE [1] [2,3] he1 fun hw=>?_
  refine qo rfl hw ?_
  refine j0b<|(j03 (gd:=none) (R:=j1N w 61 37 (0+n) ([]++(p.map j11).flatten) []) rfl rfl rfl rfl (fun u hu=>j1H elTot (n:=0) (m:=n) (xs:=[]) [] hu rfl HPL.out q6R (.inl ⟨g0,0,#[],rfl,rfl,Nat.le_refl _,Nat.zero_le _,rfl,rfl⟩) (mA ⟨⟨mH,HG0.out.1⟩,fun _ h=>by cases h⟩) (j98 HA.out (EnvX.bel hu)) (fun _ h=>by cases h) (by have:=HNB.out;omega) rfl rfl) ?_)
  rintro x1 M' ⟨N2,rfl,hF2,hn2⟩ he3;intro K' hK';go_big_quiet_op;go_big_quiet_on
  have HF2:=hD (And.intro hF2 hn2)
  clear hF2 hn2
  refine phE [3] [] he3 fun hw=>?_
  refine qo rfl hw ?_
  refine enP fun u6 EX5=>?_
  go_wp2
  go_ret
  refine⟨⟨_,rfl,?_⟩,EnvX.bel EX5.out⟩
  have h:=HF2.out.1
  rw[List.nil_append,Nat.zero_add]at h
  exact h.own HPL.out (fun y hy=>⟨(HF2.out.2 y hy).1,EnvX.box EX5.out _ _ (mL hy)⟩)
theorem j9S(a b:Tot)(w:World)(ha:okT a)(hb:okT b):
  Rz 62 #[.agg (j0E a), .agg (j0E b)] w (.bool (decide (a.n=b.n))):=by
 unfold Rz
 have HA:Hid (j2z a):=ha.len
 have HB:Hid (j2z b):=hb.len
 have E1:Hid (EnvX w ((w.alloc (.cells (j0E a) 61)).alloc (.cells (j0E b) 61)) [(w.heap.size+1,oc (j0E b) 61),(w.heap.size,oc (j0E a) 61)]):=(EnvX.start w).two _ _
 clear ha hb
 go_enter func62,ntmps62
 go_upto_region 1 with (fail)
 generalize (w.alloc (.cells (j0E a) 61)).alloc (.cells (j0E b) 61)=W at *
 refine rgQ [0,1,2,3,4,5] [] E1 rfl fun hw=>?_
 refine qo rfl hw ?_
 refine ql rfl (mT mH) HA.out hw ?_
 refine qo rfl hw ?_
 refine ql rfl mH HB.out hw ?_
 refine qv rfl (fun u hu=>j1C u rfl rfl rfl) hw ?_
 refine qo rfl hw ?_
 refine enP fun u3 EX2=>?_
 go_wp2
 go_ret
 exact⟨rfl,EnvX.bel EX2.out⟩
theorem j8y(a b:Tot)(w:World)(ha:okT a)(hb:okT b):
  Rz 66 #[.agg (j0E a), .agg (j0E b)] w (.bool true):=by
 unfold Rz
 have E1:Hid (EnvX w ((w.alloc (.cells (j0E a) 61)).alloc (.cells (j0E b) 61)) [(w.heap.size+1,oc (j0E b) 61),(w.heap.size,oc (j0E a) 61)]):=(EnvX.start w).two _ _
 clear ha hb
 go_enter func66,ntmps66
 go_upto_region 1 with (fail)
 generalize (w.alloc (.cells (j0E a) 61)).alloc (.cells (j0E b) 61)=W at *
 go_wp2
 go_ret
 exact⟨rfl,EnvX.bel E1.out⟩
def x4Q(w0:World)(M0:j0e)(out:List Tot)(B:Nat)(a':Act)(w':World):Prop:=
  ∃(v u5_ u6_ u7_ u8_ u9_ u10_ u11_ u12_ u13_ u14_ u15_ u16_ u17_ u18_ u19_ u20_ u21_ u22_ u23_ u24_ u25_ u26_ u27_ u28_ u29_ u30_ u31_ u32_ u33_ u34_ u35_ u36_ u37_ u38_ u39_ u40_ u41_ u42_:Value),a'={tmps:=List.toArray (v:: .func (.func 62) #[] #[]::undef::undef:: .slice none 0 0::u5_::u6_::u7_::u8_::u9_::u10_::u11_::u12_::u13_::u14_::u15_::u16_::u17_::u18_::u19_::u20_::u21_::u22_::u23_::u24_::u25_::u26_::u27_::u28_::u29_::u30_::u31_::u32_::u33_::u34_::u35_::u36_::u37_::u38_::u39_::u40_::u41_::u42_::[]),defers:=[]}∧Hid (x3w (fun a b=>decide (a.n=b.n)) w0 M0 out B v w')
theorem jlA(w0:World)(M0:j0e)(r:List Tot)(x:Tot)(v:Value)(N:j0e)(w:World)(hok:okTs (x::r))(hB:r.length+1≤1000001)(hF:FreshR 61 37 (r.length+1) (((x::r).reverse).map j11).flatten v N)(hfr:j01 w0 N M0)(hE:EnvX w0 w (N++M0))(ht:Tables w0):
   Calls Tryz.prog 63 #[v, .func (.func 62) #[] #[]] w fun e w''=> ∃x' M',e= .returned x'∧EnvX w0 w'' M'∧JLeft w0 M0 ((jlT (fun a b=>decide (a.n=b.n)) x r).reverse) x' M':=by
 have HI:Hid (x3w (fun a b=>decide (a.n=b.n)) w0 M0 ((jlT (fun a b=>decide (a.n=b.n)) x r).reverse) 1000001 v w):=⟨r,x,N,hok,rfl,hB,hF,hfr,hE⟩
 have HT:=hD ht
 obtain⟨out,hout⟩: ∃out,(jlT (fun a b=>decide (a.n=b.n)) x r).reverse=out:=⟨_,rfl⟩
 rw[hout]at HI ⊢
 clear hok hB hF hfr hE ht hout
 go_enter func63,ntmps63
 go_wp2_with fail
 refine j4O 0 (x4Q w0 M0 out 1000001) (fun a' _=>x3x (a'.tmps.getD 0 undef)) rfl ?_ ?_
 · clear HI
   rintro a' w' ⟨v,u5_,u6_,u7_,u8_,u9_,u10_,u11_,u12_,u13_,u14_,u15_,u16_,u17_,u18_,u19_,u20_,u21_,u22_,u23_,u24_,u25_,u26_,u27_,u28_,u29_,u30_,u31_,u32_,u33_,u34_,u35_,u36_,u37_,u38_,u39_,u40_,u41_,u42_,rfl,hinv⟩
   obtain⟨r,x,N,hok,hcar,hlen,hF,hfr,hE⟩:=hinv.out
   clear hinv
   obtain⟨g,cap,cur,rfl,rfl,hcur⟩|⟨_,_,h0,_⟩:=hF
   case inr=>cases h0
   have HGW:=hD (hfr _ (mS.2 rfl))
   have HCUR:=hD hcur
   have hcap:=hcur.2.1
   have hcap2:=hcur.1
   have EK:Hid (EnvX w0 w' ((g,oc cur 61)::M0)):=hE
   have HCAR:=hD hcar
   clear hcur hE hfr hcar
   unfold maxLen at hcap
   cases r with
   |nil=>
    have HOUT:Hid (out=[x]):=HCAR.out.symm
    have HOK1:=hD (hok x (List.mem_cons_self ..))
    have hl0:([]:List Tot).length+1=1:=rfl
    rw[hl0]at HCUR hcap2 ⊢
    have HG0:Hid (decide (((1:Nat):Int)<2)=true):=hD (by decide:decide (((1:Nat):Int)<2)=true)
    have H1B:Hid (1<9223372036854775808):=hD (by decide:1<9223372036854775808)
    clear hok hl0
    go_upto_region 1 with (fail)
    refine rgQ [0,1,2] [] EK rfl fun hw=>?_
    refine qo rfl hw ?_
    refine qv rfl (fun u hu=>j0l underlying38 H1B.out u rfl) hw ?_
    refine qo rfl hw ?_
    refine enP fun u103 EX102=>?_
    go_upto_region 2 with (fail)
    refine rgK [0,1,2,3,4,5,6,7,8,9,10,11,12,13,14,15,16] 0 EX102 rfl fun hw=>?_
    refine qo rfl hw ?_
    refine qv rfl (fun u hu=>j6b u HG0.out rfl rfl) hw ?_
    refine qw 15 hw ?_
    refine eH fun u106 EX105=>?_
    go_wp2_with fail
    simp only[Exit.jump]
    go_ret
    refine⟨_,_,rfl,EX105.out,[(g,oc cur 61)],rfl,?_,fun y hy=>by cases mS.1 hy;exact HGW.out⟩
    rw[HOUT.out]
    exact .inl ⟨g,cap,cur,rfl,rfl,HCUR.out⟩
   |cons y r=>
    obtain⟨k,hk⟩: ∃k,r.length=k:=⟨_,rfl⟩
    have hkl:(y::r).length+1=k+2:=by rw[List.length_cons,hk]
    rw[hkl]at HCUR hlen hcap2 ⊢
    obtain⟨q,hq⟩: ∃q,r.reverse=q:=⟨_,rfl⟩
    have hl2:(x::y::r).reverse=q++[y,x]:=by rw[List.reverse_cons,List.reverse_cons,hq,aA];rfl
    have hql:q.length=k:=by rw[←hq,List.length_reverse,hk]
    have hokl:okTs (q++[y,x]):=fun t ht=>hok t (by rw[←List.mem_reverse,hl2];exact ht)
    have hokq:okTs q:=fun t ht=>hokl t (mL ht)
    rw[hl2]at HCUR
    have HX:=hD (hok x (List.mem_cons_self ..))
    have HY:=hD (hok y (mT (List.mem_cons_self ..)))
    have HOKR:Hid (∀t∈r,okT t):=fun t ht=>hok t (mT (mT ht))
    have hll:(q++[y,x]).length=k+2:=by rw[lA,hql];rfl
    have hgx:(q++[y,x]).getD (k+1) noTot=x:=by
      rw[gD,List.getElem?_append_right (by omega),hql,show k+1- k=1 by omega]
      rfl
    have hgy:(q++[y,x]).getD k noTot=y:=by
      rw[gD,List.getElem?_append_right (by omega),hql,Nat.sub_self]
      rfl
    have HLD:Hid (∀u:World,Row u g 61 cur→(loadVar 61 ((⟨g,0,none⟩:Addr).add ((k+1)*37))).run Tryz.prog u= .ok (j3j x) u∧(loadVar 61 ((⟨g,0,none⟩:Addr).add (k*37))).run Tryz.prog u= .ok (j3j y) u):=fun u hu=>by
      have hT:=j9y (cap:=cap) hu hokl hll HCUR.out.2.2.2
      obtain⟨a1,e1,h1⟩:=hT.loads hokl (k:=k+1) (by omega)
      obtain⟨a2,e2,h2⟩:=hT.loads hokl (k:=k) (by omega)
      cases e1
      cases e2
      have h1:=h1 u (EnvX.start u)
      have h2:=h2 u (EnvX.start u)
      rw[hgx]at h1
      rw[hgy]at h2
      exact⟨h1.1,h2.1⟩
    have HK:Hid (k+2<9223372036854775808):=by show _<_;omega
    have HS1:Hid (((k+2:Nat):Int) - 1=((k+1:Nat):Int)∧InI ((k+1:Nat):Int)):=⟨by omega,by unfold InI;omega⟩
    have HS2:Hid (((k+2:Nat):Int) - 2=(k:Int)∧InI (k:Int)):=⟨by omega,by unfold InI;omega⟩
    have HX1:Hid (k+1<k+2):=by show _<_;omega
    have HX2:Hid (k<k+2):=by show _<_;omega
    have HG2:Hid (decide (((k+2:Nat):Int)<2)=false):=decide_eq_false (by omega)
    have HKB:Hid (k≤1000000):=by show _≤_;omega
    have HKC:Hid (k≤cap):=by show _≤_;omega
    have HQL:Hid ((q.map j11).flatten.length=k*37):=by show _=_;rw[j2x hokq,hql]
    have HFK:Hid (FreshR 61 37 k (q.map j11).flatten (.slice (some ⟨g,0,none⟩) k cap) [(g,oc cur 61)]):=by
      refine .inl ⟨g,cap,cur,rfl,rfl,HKC.out,HCUR.out.2.1,HCUR.out.2.2.1,?_⟩
      have h:=congrArg (List.take (k*37)) HCUR.out.2.2.2
      rw[List.take_take,Nat.min_eq_left (by omega),List.map_append,List.flatten_append,List.take_left' HQL.out]at h
      exact h
    have HQQ:=hD hq
    have HLEN:=hD (And.intro hlen hk)
    have HQI:=hD (And.intro hokl (And.intro hql hll))
    clear hok hokl hkl hk hq hl2 hgx hgy hlen hql hll hcap2 hokq
    by_cases hxy:(fun a b=>decide (a.n=b.n)) y x=true
    · have HD:Hid (∀u,Calls Tryz.prog 62 #[.agg (j0E y), .agg (j0E x)] u fun e w'=>e= .returned (.bool true)∧Below u.heap.size u w'):=fun u=>by
       have h:=j9S y x u HY.out HX.out
       rwa[show decide (y.n=x.n)=true from hxy]at h
      have HCT:Hid (jlT (fun a b=>decide (a.n=b.n)) x (y::r)=jlT (fun a b=>decide (a.n=b.n)) (j2t y x) r):=by show _=_;rw[jlT,if_pos hxy]
      have HJ:Hid (∀u,Below w0.heap.size w0 u→Calls Tryz.prog 109 #[.agg (j0E y), .agg (j0E x)] u fun e w'=>e= .returned (.agg (j0E (j2t y x)))∧Below u.heap.size u w'):=fun u hb=>q0E y x u HY.out HX.out (HT.out.below hb)
      clear hxy
      go_upto_region 1 with (fail)
      refine rgQ [0,1,2] [] EK rfl fun hw=>?_
      refine qo rfl hw ?_
      refine qv rfl (fun u hu=>j0l underlying38 HK.out u rfl) hw ?_
      refine qo rfl hw ?_
      refine enP fun u103 EX102=>?_
      go_upto_region 2 with (fail)
      refine rgH [0,1,2,3,4,5,6,7,8,9,10,11,12,13,14,15,16] 0 EX102 rfl (by kernel_rfl) (by kernel_rfl) ?_;intro hw104 hone
      refine qo rfl ⟨_,hw104⟩ ?_
      refine qv rfl (fun u hu=>j6b u HG2.out rfl rfl) ⟨_,hw104⟩ ?_
      iterate 4 refine qo rfl ⟨_,hw104⟩ ?_
      refine qv rfl (fun u hu=>j2M u HS2.out.1 HS2.out.2 rfl rfl) ⟨_,hw104⟩ ?_
      refine qv rfl (fun u hu=>j0h underlying38 aggTot.size HX2.out u rfl rfl) ⟨_,hw104⟩ ?_
      refine qv rfl (fun u hu=>j0a u (HLD.out u (EnvX.row hu mH)).2 rfl) ⟨_,hw104⟩ ?_
      iterate 2 refine qo rfl ⟨_,hw104⟩ ?_
      refine qv rfl (fun u hu=>j2M u HS1.out.1 HS1.out.2 rfl rfl) ⟨_,hw104⟩ ?_
      refine qv rfl (fun u hu=>j0h underlying38 aggTot.size HX1.out u rfl rfl) ⟨_,hw104⟩ ?_
      refine qv rfl (fun u hu=>j0a u (HLD.out u (EnvX.row hu mH)).1 rfl) ⟨_,hw104⟩ ?_
      (refine j0I (f:=62) (args:= #[.agg (j0E y), .agg (j0E x)]) (caps:= #[]) (all:= #[.agg (j0E y), .agg (j0E x)]) (v:= .bool true) rfl rfl rfl rfl rfl func62 rfl rfl (fun u hu=>HD.out u) ?_ hw104;intro K hK;go_big_quiet_op;go_big_quiet_on)
      iterate 2 refine qo rfl ⟨_,hw104⟩ ?_
      clear hone hw104;refine eH fun u106 EX105=>?_
      go_upto_region 4 with (fail)
      refine rgK [0,1,2,3,4,5,6,7,8,9,10,11,12,13,14] 3 EX105 rfl fun hw=>?_
      refine qw 2 hw ?_
      refine qv rfl (fun u hu=>j2M u HS2.out.1 HS2.out.2 rfl rfl) hw ?_
      refine qv (v:= .slice (some ⟨g,0,none⟩) k cap) rfl (fun u hu=>j43 elTot u HKC.out rfl rfl) hw ?_
      refine qw 2 hw ?_
      refine qv rfl (fun u hu=>j2M u HS2.out.1 HS2.out.2 rfl rfl) hw ?_
      refine qv rfl (fun u hu=>j0h underlying38 aggTot.size HX2.out u rfl rfl) hw ?_
      refine qv rfl (fun u hu=>j0a u (HLD.out u (EnvX.row hu mH)).2 rfl) hw ?_
      refine qw 2 hw ?_
      refine qv rfl (fun u hu=>j2M u HS1.out.1 HS1.out.2 rfl rfl) hw ?_
      refine qv rfl (fun u hu=>j0h underlying38 aggTot.size HX1.out u rfl rfl) hw ?_
      refine qv rfl (fun u hu=>j0a u (HLD.out u (EnvX.row hu mH)).1 rfl) hw ?_
      refine qc rfl func109 (fun u hu=>HJ.out u (EnvX.bel hu)) hw ?_
      refine j0b<|aO 15 (j0k (R:=j2R 61 (j11 (j2t y x))) (M0:=((g,oc cur 61)::M0)) rfl rfl (fun _ h=>h) (fun u hu=>j1q elTot (j16 join_ok.len) (j22 _) rfl u) ?_)
      rintro _ _ ⟨gj,rfl,rfl⟩ hf he108;intro K' hK';go_big_quiet_op;go_big_quiet_on
      have HGJ:=hD (hf _ (mS.2 rfl))
      clear hf
      change j1s _ _ _ _ _ _ _ _ ((gj,oc (j11 (j2t y x)).toArray 61)::((g,oc cur 61)::M0))
      refine aO 16 (j03 (gd:=none) (R:=j1N w0 61 37 (k+1) ((q.map j11).flatten++j11 (j2t y x)) M0) rfl rfl rfl rfl (fun u hu=>j1H elTot (m:=1) M0 hu HQL.out (by rw[Nat.one_mul];exact j16 join_ok.len) (j22 _) HFK.out (mA ⟨⟨(mT mH),HGW.out.1⟩,fun _ h=>by cases h⟩) (j1p (k:=0) hu mH (by rw[List.drop_zero,List.take_length])) (fun z hz=>⟨mT (mT hz),fun y hy=>by cases mS.1 hy;exact HGW.out.2 z hz⟩) (by have:=HKB.out;omega) rfl rfl) ?_)
      rintro x9 M' ⟨N9,rfl,hF9,hn9⟩ he109;intro K' hK';go_big_quiet_op;go_big_quiet_on
      have HF9:=hD (And.intro hF9 hn9)
      clear hF9 hn9
      refine phF [17] 0 rfl he109 fun hw=>?_
      refine qo rfl hw ?_
      refine eH fun u112 EX111=>?_
      have HNX:Hid (x3w (fun a b=>decide (a.n=b.n)) w0 M0 out 1000001 x9 u112):=by
       refine⟨r,j2t y x,N9,?_,by rw[←HCT.out];exact HCAR.out,by have:=HLEN.out;omega,?_,HF9.out.2,EX111.out⟩
       · intro t ht
         rcases List.mem_cons.1 ht with rfl|h
         · exact join_ok
         · exact HOKR.out t h
       · have h:=HF9.out.1
         rw[List.reverse_cons,HQQ.out,List.map_append,List.flatten_append,List.map_singleton,List.flatten_singleton,HLEN.out.2]
         exact h
      have HLV:Hid (x3x x9=k+1):=by
       rcases HF9.out.1 with ⟨_,_,_,e,_⟩|⟨_,_,e,_⟩
       · show _=_;rw[e];rfl
       · cases e
      go_wp2_with fail
      go_step3
      refine⟨rfl,⟨x9,_,_,_,_,_,_,_,_,_,_,_,_,_,_,_,_,_,_,_,_,_,_,_,_,_,_,_,_,_,_,_,_,_,_,_,_,_,_,rfl,HNX⟩,?_⟩
      show x3x x9<k+2
      rw[HLV.out]
      omega
    · have hxy2:decide (y.n=x.n)=false:=by
       have h:(fun a b=>decide (a.n=b.n)) y x=decide (y.n=x.n):=rfl
       rw[←h]
       exact Bool.eq_false_iff.2 hxy
      have HD:Hid (∀u,Calls Tryz.prog 62 #[.agg (j0E y), .agg (j0E x)] u fun e w'=>e= .returned (.bool false)∧Below u.heap.size u w'):=fun u=>by
       have h:=j9S y x u HY.out HX.out
       rwa[hxy2]at h
      have HOUT:Hid (out=q++[y,x]):=by
       show _=_
       rw[←HCAR.out,jlT,if_neg hxy,List.reverse_cons,List.reverse_cons,HQQ.out,aA]
       rfl
      clear hxy hxy2
      go_upto_region 1 with (fail)
      refine rgQ [0,1,2] [] EK rfl fun hw=>?_
      refine qo rfl hw ?_
      refine qv rfl (fun u hu=>j0l underlying38 HK.out u rfl) hw ?_
      refine qo rfl hw ?_
      refine enP fun u103 EX102=>?_
      go_upto_region 2 with (fail)
      refine rgH [0,1,2,3,4,5,6,7,8,9,10,11,12,13,14,15,16] 0 EX102 rfl (by kernel_rfl) (by kernel_rfl) ?_;intro hw104 hone
      refine qo rfl ⟨_,hw104⟩ ?_
      refine qv rfl (fun u hu=>j6b u HG2.out rfl rfl) ⟨_,hw104⟩ ?_
      iterate 4 refine qo rfl ⟨_,hw104⟩ ?_
      refine qv rfl (fun u hu=>j2M u HS2.out.1 HS2.out.2 rfl rfl) ⟨_,hw104⟩ ?_
      refine qv rfl (fun u hu=>j0h underlying38 aggTot.size HX2.out u rfl rfl) ⟨_,hw104⟩ ?_
      refine qv rfl (fun u hu=>j0a u (HLD.out u (EnvX.row hu mH)).2 rfl) ⟨_,hw104⟩ ?_
      iterate 2 refine qo rfl ⟨_,hw104⟩ ?_
      refine qv rfl (fun u hu=>j2M u HS1.out.1 HS1.out.2 rfl rfl) ⟨_,hw104⟩ ?_
      refine qv rfl (fun u hu=>j0h underlying38 aggTot.size HX1.out u rfl rfl) ⟨_,hw104⟩ ?_
      refine qv rfl (fun u hu=>j0a u (HLD.out u (EnvX.row hu mH)).1 rfl) ⟨_,hw104⟩ ?_
      (refine j0I (f:=62) (args:= #[.agg (j0E y), .agg (j0E x)]) (caps:= #[]) (all:= #[.agg (j0E y), .agg (j0E x)]) (v:= .bool false) rfl rfl rfl rfl rfl func62 rfl rfl (fun u hu=>HD.out u) ?_ hw104;intro K hK;go_big_quiet_op;go_big_quiet_on)
      iterate 2 refine qo rfl ⟨_,hw104⟩ ?_
      clear hone hw104;refine eH fun u106 EX105=>?_
      go_wp2_with fail
      simp only[Exit.jump]
      go_ret
      refine⟨_,_,rfl,EX105.out,[(g,oc cur 61)],rfl,?_,fun y hy=>by cases mS.1 hy;exact HGW.out⟩
      rw[HOUT.out,HQI.out.2.2]
      exact .inl ⟨g,cap,cur,rfl,rfl,HCUR.out⟩
 · intro hrest
   go_upto_region 1 with (fail)
   refine wp_label ?_
   rename_i hK
   exact hK _ _ (hrest _ _ ⟨v,_,_,_,_,_,_,_,_,_,_,_,_,_,_,_,_,_,_,_,_,_,_,_,_,_,_,_,_,_,_,_,_,_,_,_,_,_,_,rfl,HI⟩)
def x4T(w0:World)(M0:j0e)(out:List Tot)(B:Nat)(a':Act)(w':World):Prop:=
  ∃(v u5_ u6_ u7_ u8_ u9_ u10_ u11_ u12_ u13_ u14_ u15_ u16_ u17_ u18_ u19_ u20_ u21_ u22_ u23_ u24_ u25_ u26_ u27_ u28_ u29_ u30_ u31_ u32_ u33_ u34_ u35_ u36_ u37_ u38_ u39_ u40_ u41_ u42_:Value),a'={tmps:=List.toArray (v:: .func (.func 66) #[] #[]::undef::undef:: .slice none 0 0::u5_::u6_::u7_::u8_::u9_::u10_::u11_::u12_::u13_::u14_::u15_::u16_::u17_::u18_::u19_::u20_::u21_::u22_::u23_::u24_::u25_::u26_::u27_::u28_::u29_::u30_::u31_::u32_::u33_::u34_::u35_::u36_::u37_::u38_::u39_::u40_::u41_::u42_::[]),defers:=[]}∧Hid (x3w (fun _ _=>true) w0 M0 out B v w')
theorem jlR(w0:World)(M0:j0e)(r:List Tot)(x:Tot)(v:Value)(N:j0e)(w:World)(hok:okTs (x::r))(hB:r.length+1≤1000001)(hF:FreshR 61 37 (r.length+1) (((x::r).reverse).map j11).flatten v N)(hfr:j01 w0 N M0)(hE:EnvX w0 w (N++M0))(ht:Tables w0):
   Calls Tryz.prog 63 #[v, .func (.func 66) #[] #[]] w fun e w''=> ∃x' M',e= .returned x'∧EnvX w0 w'' M'∧JLeft w0 M0 ((jlT (fun _ _=>true) x r).reverse) x' M':=by
 have HI:Hid (x3w (fun _ _=>true) w0 M0 ((jlT (fun _ _=>true) x r).reverse) 1000001 v w):=⟨r,x,N,hok,rfl,hB,hF,hfr,hE⟩
 have HT:=hD ht
 obtain⟨out,hout⟩: ∃out,(jlT (fun _ _=>true) x r).reverse=out:=⟨_,rfl⟩
 rw[hout]at HI ⊢
 clear hok hB hF hfr hE ht hout
 go_enter func63,ntmps63
 go_wp2_with fail
 refine j4O 0 (x4T w0 M0 out 1000001) (fun a' _=>x3x (a'.tmps.getD 0 undef)) rfl ?_ ?_
 · clear HI
   rintro a' w' ⟨v,u5_,u6_,u7_,u8_,u9_,u10_,u11_,u12_,u13_,u14_,u15_,u16_,u17_,u18_,u19_,u20_,u21_,u22_,u23_,u24_,u25_,u26_,u27_,u28_,u29_,u30_,u31_,u32_,u33_,u34_,u35_,u36_,u37_,u38_,u39_,u40_,u41_,u42_,rfl,hinv⟩
   obtain⟨r,x,N,hok,hcar,hlen,hF,hfr,hE⟩:=hinv.out
   clear hinv
   obtain⟨g,cap,cur,rfl,rfl,hcur⟩|⟨_,_,h0,_⟩:=hF
   case inr=>cases h0
   have HGW:=hD (hfr _ (mS.2 rfl))
   have HCUR:=hD hcur
   have hcap:=hcur.2.1
   have hcap2:=hcur.1
   have EK:Hid (EnvX w0 w' ((g,oc cur 61)::M0)):=hE
   have HCAR:=hD hcar
   clear hcur hE hfr hcar
   unfold maxLen at hcap
   cases r with
   |nil=>
    have HOUT:Hid (out=[x]):=HCAR.out.symm
    have HOK1:=hD (hok x (List.mem_cons_self ..))
    have hl0:([]:List Tot).length+1=1:=rfl
    rw[hl0]at HCUR hcap2 ⊢
    have HG0:Hid (decide (((1:Nat):Int)<2)=true):=hD (by decide:decide (((1:Nat):Int)<2)=true)
    have H1B:Hid (1<9223372036854775808):=hD (by decide:1<9223372036854775808)
    clear hok hl0
    go_upto_region 1 with (fail)
    refine rgQ [0,1,2] [] EK rfl fun hw=>?_
    refine qo rfl hw ?_
    refine qv rfl (fun u hu=>j0l underlying38 H1B.out u rfl) hw ?_
    refine qo rfl hw ?_
    refine enP fun u103 EX102=>?_
    go_upto_region 2 with (fail)
    refine rgK [0,1,2,3,4,5,6,7,8,9,10,11,12,13,14,15,16] 0 EX102 rfl fun hw=>?_
    refine qo rfl hw ?_
    refine qv rfl (fun u hu=>j6b u HG0.out rfl rfl) hw ?_
    refine qw 15 hw ?_
    refine eH fun u106 EX105=>?_
    go_wp2_with fail
    simp only[Exit.jump]
    go_ret
    refine⟨_,_,rfl,EX105.out,[(g,oc cur 61)],rfl,?_,fun y hy=>by cases mS.1 hy;exact HGW.out⟩
    rw[HOUT.out]
    exact .inl ⟨g,cap,cur,rfl,rfl,HCUR.out⟩
   |cons y r=>
    obtain⟨k,hk⟩: ∃k,r.length=k:=⟨_,rfl⟩
    have hkl:(y::r).length+1=k+2:=by rw[List.length_cons,hk]
    rw[hkl]at HCUR hlen hcap2 ⊢
    obtain⟨q,hq⟩: ∃q,r.reverse=q:=⟨_,rfl⟩
    have hl2:(x::y::r).reverse=q++[y,x]:=by rw[List.reverse_cons,List.reverse_cons,hq,aA];rfl
    have hql:q.length=k:=by rw[←hq,List.length_reverse,hk]
    have hokl:okTs (q++[y,x]):=fun t ht=>hok t (by rw[←List.mem_reverse,hl2];exact ht)
    have hokq:okTs q:=fun t ht=>hokl t (mL ht)
    rw[hl2]at HCUR
    have HX:=hD (hok x (List.mem_cons_self ..))
    have HY:=hD (hok y (mT (List.mem_cons_self ..)))
    have HOKR:Hid (∀t∈r,okT t):=fun t ht=>hok t (mT (mT ht))
    have hll:(q++[y,x]).length=k+2:=by rw[lA,hql];rfl
    have hgx:(q++[y,x]).getD (k+1) noTot=x:=by
      rw[gD,List.getElem?_append_right (by omega),hql,show k+1- k=1 by omega]
      rfl
    have hgy:(q++[y,x]).getD k noTot=y:=by
      rw[gD,List.getElem?_append_right (by omega),hql,Nat.sub_self]
      rfl
    have HLD:Hid (∀u:World,Row u g 61 cur→(loadVar 61 ((⟨g,0,none⟩:Addr).add ((k+1)*37))).run Tryz.prog u= .ok (j3j x) u∧(loadVar 61 ((⟨g,0,none⟩:Addr).add (k*37))).run Tryz.prog u= .ok (j3j y) u):=fun u hu=>by
      have hT:=j9y (cap:=cap) hu hokl hll HCUR.out.2.2.2
      obtain⟨a1,e1,h1⟩:=hT.loads hokl (k:=k+1) (by omega)
      obtain⟨a2,e2,h2⟩:=hT.loads hokl (k:=k) (by omega)
      cases e1
      cases e2
      have h1:=h1 u (EnvX.start u)
      have h2:=h2 u (EnvX.start u)
      rw[hgx]at h1
      rw[hgy]at h2
      exact⟨h1.1,h2.1⟩
    have HK:Hid (k+2<9223372036854775808):=by show _<_;omega
    have HS1:Hid (((k+2:Nat):Int) - 1=((k+1:Nat):Int)∧InI ((k+1:Nat):Int)):=⟨by omega,by unfold InI;omega⟩
    have HS2:Hid (((k+2:Nat):Int) - 2=(k:Int)∧InI (k:Int)):=⟨by omega,by unfold InI;omega⟩
    have HX1:Hid (k+1<k+2):=by show _<_;omega
    have HX2:Hid (k<k+2):=by show _<_;omega
    have HG2:Hid (decide (((k+2:Nat):Int)<2)=false):=decide_eq_false (by omega)
    have HKB:Hid (k≤1000000):=by show _≤_;omega
    have HKC:Hid (k≤cap):=by show _≤_;omega
    have HQL:Hid ((q.map j11).flatten.length=k*37):=by show _=_;rw[j2x hokq,hql]
    have HFK:Hid (FreshR 61 37 k (q.map j11).flatten (.slice (some ⟨g,0,none⟩) k cap) [(g,oc cur 61)]):=by
      refine .inl ⟨g,cap,cur,rfl,rfl,HKC.out,HCUR.out.2.1,HCUR.out.2.2.1,?_⟩
      have h:=congrArg (List.take (k*37)) HCUR.out.2.2.2
      rw[List.take_take,Nat.min_eq_left (by omega),List.map_append,List.flatten_append,List.take_left' HQL.out]at h
      exact h
    have HQQ:=hD hq
    have HLEN:=hD (And.intro hlen hk)
    have HQI:=hD (And.intro hokl (And.intro hql hll))
    clear hok hokl hkl hk hq hl2 hgx hgy hlen hql hll hcap2 hokq
    by_cases hxy:(fun _ _=>true) y x=true
    · have HD:Hid (∀u,Calls Tryz.prog 66 #[.agg (j0E y), .agg (j0E x)] u fun e w'=>e= .returned (.bool true)∧Below u.heap.size u w'):=fun u=>by
       have h:=j8y y x u HY.out HX.out
       rwa[show true=true from hxy]at h
      have HCT:Hid (jlT (fun _ _=>true) x (y::r)=jlT (fun _ _=>true) (j2t y x) r):=by show _=_;rw[jlT,if_pos hxy]
      have HJ:Hid (∀u,Below w0.heap.size w0 u→Calls Tryz.prog 109 #[.agg (j0E y), .agg (j0E x)] u fun e w'=>e= .returned (.agg (j0E (j2t y x)))∧Below u.heap.size u w'):=fun u hb=>q0E y x u HY.out HX.out (HT.out.below hb)
      clear hxy
      go_upto_region 1 with (fail)
      refine rgQ [0,1,2] [] EK rfl fun hw=>?_
      refine qo rfl hw ?_
      refine qv rfl (fun u hu=>j0l underlying38 HK.out u rfl) hw ?_
      refine qo rfl hw ?_
      refine enP fun u103 EX102=>?_
      go_upto_region 2 with (fail)
      refine rgH [0,1,2,3,4,5,6,7,8,9,10,11,12,13,14,15,16] 0 EX102 rfl (by kernel_rfl) (by kernel_rfl) ?_;intro hw104 hone
      refine qo rfl ⟨_,hw104⟩ ?_
      refine qv rfl (fun u hu=>j6b u HG2.out rfl rfl) ⟨_,hw104⟩ ?_
      iterate 4 refine qo rfl ⟨_,hw104⟩ ?_
      refine qv rfl (fun u hu=>j2M u HS2.out.1 HS2.out.2 rfl rfl) ⟨_,hw104⟩ ?_
      refine qv rfl (fun u hu=>j0h underlying38 aggTot.size HX2.out u rfl rfl) ⟨_,hw104⟩ ?_
      refine qv rfl (fun u hu=>j0a u (HLD.out u (EnvX.row hu mH)).2 rfl) ⟨_,hw104⟩ ?_
      iterate 2 refine qo rfl ⟨_,hw104⟩ ?_
      refine qv rfl (fun u hu=>j2M u HS1.out.1 HS1.out.2 rfl rfl) ⟨_,hw104⟩ ?_
      refine qv rfl (fun u hu=>j0h underlying38 aggTot.size HX1.out u rfl rfl) ⟨_,hw104⟩ ?_
      refine qv rfl (fun u hu=>j0a u (HLD.out u (EnvX.row hu mH)).1 rfl) ⟨_,hw104⟩ ?_
      (refine j0I (f:=66) (args:= #[.agg (j0E y), .agg (j0E x)]) (caps:= #[]) (all:= #[.agg (j0E y), .agg (j0E x)]) (v:= .bool true) rfl rfl rfl rfl rfl func66 rfl rfl (fun u hu=>HD.out u) ?_ hw104;intro K hK;go_big_quiet_op;go_big_quiet_on)
      iterate 2 refine qo rfl ⟨_,hw104⟩ ?_
      clear hone hw104;refine eH fun u106 EX105=>?_
      go_upto_region 4 with (fail)
      refine rgK [0,1,2,3,4,5,6,7,8,9,10,11,12,13,14] 3 EX105 rfl fun hw=>?_
      refine qw 2 hw ?_
      refine qv rfl (fun u hu=>j2M u HS2.out.1 HS2.out.2 rfl rfl) hw ?_
      refine qv (v:= .slice (some ⟨g,0,none⟩) k cap) rfl (fun u hu=>j43 elTot u HKC.out rfl rfl) hw ?_
      refine qw 2 hw ?_
      refine qv rfl (fun u hu=>j2M u HS2.out.1 HS2.out.2 rfl rfl) hw ?_
      refine qv rfl (fun u hu=>j0h underlying38 aggTot.size HX2.out u rfl rfl) hw ?_
      refine qv rfl (fun u hu=>j0a u (HLD.out u (EnvX.row hu mH)).2 rfl) hw ?_
      refine qw 2 hw ?_
      refine qv rfl (fun u hu=>j2M u HS1.out.1 HS1.out.2 rfl rfl) hw ?_
      refine qv rfl (fun u hu=>j0h underlying38 aggTot.size HX1.out u rfl rfl) hw ?_
      refine qv rfl (fun u hu=>j0a u (HLD.out u (EnvX.row hu mH)).1 rfl) hw ?_
      refine qc rfl func109 (fun u hu=>HJ.out u (EnvX.bel hu)) hw ?_
      refine j0b<|aO 15 (j0k (R:=j2R 61 (j11 (j2t y x))) (M0:=((g,oc cur 61)::M0)) rfl rfl (fun _ h=>h) (fun u hu=>j1q elTot (j16 join_ok.len) (j22 _) rfl u) ?_)
      rintro _ _ ⟨gj,rfl,rfl⟩ hf he108;intro K' hK';go_big_quiet_op;go_big_quiet_on
      have HGJ:=hD (hf _ (mS.2 rfl))
      clear hf
      change j1s _ _ _ _ _ _ _ _ ((gj,oc (j11 (j2t y x)).toArray 61)::((g,oc cur 61)::M0))
      refine aO 16 (j03 (gd:=none) (R:=j1N w0 61 37 (k+1) ((q.map j11).flatten++j11 (j2t y x)) M0) rfl rfl rfl rfl (fun u hu=>j1H elTot (m:=1) M0 hu HQL.out (by rw[Nat.one_mul];exact j16 join_ok.len) (j22 _) HFK.out (mA ⟨⟨(mT mH),HGW.out.1⟩,fun _ h=>by cases h⟩) (j1p (k:=0) hu mH (by rw[List.drop_zero,List.take_length])) (fun z hz=>⟨mT (mT hz),fun y hy=>by cases mS.1 hy;exact HGW.out.2 z hz⟩) (by have:=HKB.out;omega) rfl rfl) ?_)
      rintro x9 M' ⟨N9,rfl,hF9,hn9⟩ he109;intro K' hK';go_big_quiet_op;go_big_quiet_on
      have HF9:=hD (And.intro hF9 hn9)
      clear hF9 hn9
      refine phF [17] 0 rfl he109 fun hw=>?_
      refine qo rfl hw ?_
      refine eH fun u112 EX111=>?_
      have HNX:Hid (x3w (fun _ _=>true) w0 M0 out 1000001 x9 u112):=by
       refine⟨r,j2t y x,N9,?_,by rw[←HCT.out];exact HCAR.out,by have:=HLEN.out;omega,?_,HF9.out.2,EX111.out⟩
       · intro t ht
         rcases List.mem_cons.1 ht with rfl|h
         · exact join_ok
         · exact HOKR.out t h
       · have h:=HF9.out.1
         rw[List.reverse_cons,HQQ.out,List.map_append,List.flatten_append,List.map_singleton,List.flatten_singleton,HLEN.out.2]
         exact h
      have HLV:Hid (x3x x9=k+1):=by
       rcases HF9.out.1 with ⟨_,_,_,e,_⟩|⟨_,_,e,_⟩
       · show _=_;rw[e];rfl
       · cases e
      go_wp2_with fail
      go_step3
      refine⟨rfl,⟨x9,_,_,_,_,_,_,_,_,_,_,_,_,_,_,_,_,_,_,_,_,_,_,_,_,_,_,_,_,_,_,_,_,_,_,_,_,_,_,rfl,HNX⟩,?_⟩
      show x3x x9<k+2
      rw[HLV.out]
      omega
    · have hxy2:true=false:=by
       have h:(fun _ _=>true) y x=true:=rfl
       rw[←h]
       exact Bool.eq_false_iff.2 hxy
      have HD:Hid (∀u,Calls Tryz.prog 66 #[.agg (j0E y), .agg (j0E x)] u fun e w'=>e= .returned (.bool false)∧Below u.heap.size u w'):=fun u=>by
       have h:=j8y y x u HY.out HX.out
       rwa[hxy2]at h
      have HOUT:Hid (out=q++[y,x]):=by
       show _=_
       rw[←HCAR.out,jlT,if_neg hxy,List.reverse_cons,List.reverse_cons,HQQ.out,aA]
       rfl
      clear hxy hxy2
      go_upto_region 1 with (fail)
      refine rgQ [0,1,2] [] EK rfl fun hw=>?_
      refine qo rfl hw ?_
      refine qv rfl (fun u hu=>j0l underlying38 HK.out u rfl) hw ?_
      refine qo rfl hw ?_
      refine enP fun u103 EX102=>?_
      go_upto_region 2 with (fail)
      refine rgH [0,1,2,3,4,5,6,7,8,9,10,11,12,13,14,15,16] 0 EX102 rfl (by kernel_rfl) (by kernel_rfl) ?_;intro hw104 hone
      refine qo rfl ⟨_,hw104⟩ ?_
      refine qv rfl (fun u hu=>j6b u HG2.out rfl rfl) ⟨_,hw104⟩ ?_
      iterate 4 refine qo rfl ⟨_,hw104⟩ ?_
      refine qv rfl (fun u hu=>j2M u HS2.out.1 HS2.out.2 rfl rfl) ⟨_,hw104⟩ ?_
      refine qv rfl (fun u hu=>j0h underlying38 aggTot.size HX2.out u rfl rfl) ⟨_,hw104⟩ ?_
      refine qv rfl (fun u hu=>j0a u (HLD.out u (EnvX.row hu mH)).2 rfl) ⟨_,hw104⟩ ?_
      iterate 2 refine qo rfl ⟨_,hw104⟩ ?_
      refine qv rfl (fun u hu=>j2M u HS1.out.1 HS1.out.2 rfl rfl) ⟨_,hw104⟩ ?_
      refine qv rfl (fun u hu=>j0h underlying38 aggTot.size HX1.out u rfl rfl) ⟨_,hw104⟩ ?_
      refine qv rfl (fun u hu=>j0a u (HLD.out u (EnvX.row hu mH)).1 rfl) ⟨_,hw104⟩ ?_
      (refine j0I (f:=66) (args:= #[.agg (j0E y), .agg (j0E x)]) (caps:= #[]) (all:= #[.agg (j0E y), .agg (j0E x)]) (v:= .bool false) rfl rfl rfl rfl rfl func66 rfl rfl (fun u hu=>HD.out u) ?_ hw104;intro K hK;go_big_quiet_op;go_big_quiet_on)
      iterate 2 refine qo rfl ⟨_,hw104⟩ ?_
      clear hone hw104;refine eH fun u106 EX105=>?_
      go_wp2_with fail
      simp only[Exit.jump]
      go_ret
      refine⟨_,_,rfl,EX105.out,[(g,oc cur 61)],rfl,?_,fun y hy=>by cases mS.1 hy;exact HGW.out⟩
      rw[HOUT.out,HQI.out.2.2]
      exact .inl ⟨g,cap,cur,rfl,rfl,HCUR.out⟩
 · intro hrest
   go_upto_region 1 with (fail)
   refine wp_label ?_
   rename_i hK
   exact hK _ _ (hrest _ _ ⟨v,_,_,_,_,_,_,_,_,_,_,_,_,_,_,_,_,_,_,_,_,_,_,_,_,_,_,_,_,_,_,_,_,_,_,_,_,_,_,rfl,HI⟩)
theorem x1g (l q:List (List Int)) (A A':Option Addr) (n c m c':Nat) (w:World) (hl:l.length=n) (hq:q.length=m) (hn:n≤1000000) (hm:m≤1000000) (hnc:n≤c) (hc:c≤maxLen) (hmc:m≤c') (hc':c'≤maxLen) (hI:isIds l) (hJ:isIds q) (hA:IdsIn w w.heap.size A l) (hB:IdsIn w w.heap.size A' q):
   Rz 82 #[.slice A n c, .slice A' m c'] w (.bool (decide (l=q))):=by
 unfold Rz
 unfold maxLen at hc hc'
 have HL:=hD hl
 have HQ:=hD hq
 have HI:=hD (And.intro hI hA)
 have HJ:=hD (And.intro hJ hB)
 clear hI hA hJ hB hl hq
 by_cases hnm:n=m
 · subst hnm
   go_enter func82,ntmps82
   go_upto_region 4 with (fail)
   go_loopw [13] (fun i u=> ∃k:Nat,k≤n∧i= .int .i64 k∧Below w.heap.size w u∧Hid (l.take k=q.take k)) (fun i _=>n- (intOf i).toNat)
   case atStart=>exact⟨0,by omega,rfl,Below.refl _ _,rfl⟩
   case round=>
    obtain⟨k,hk,rfl,hbl,hsame⟩:=hrel
    by_cases hlt:k<n
    · have hk2:(k:Int)<(n:Int):=by omega
      obtain⟨a1,rfl,h1⟩:=HI.out.2.loads HI.out.1 (k:=k) (by rw[HL.out];exact hlt)
      obtain⟨a2,rfl,h2⟩:=HJ.out.2.loads HJ.out.1 (k:=k) (by rw[HQ.out];exact hlt)
      have H1:=hD h1
      have H2:=hD h2
      have E1:Hid (EnvX w wr []):=⟨hbl,fun _ _ h=>by cases h⟩
      have HX:=hD (HI.out.1.get (i:=k) (by rw[HL.out];exact hlt))
      have HY:=hD (HJ.out.1.get (i:=k) (by rw[HQ.out];exact hlt))
      have HST:=hD (q3L hsame.out (by rw[HL.out];exact hlt) (by rw[HQ.out];exact hlt))
      have HNE:Hid (l.getD k []≠q.getD k []→l≠q):=fun h e=>h (by rw[e])
      clear h1 h2 hsame hbl
      generalize l.getD k []=x at *
      generalize q.getD k []=y at *
      go_upto_region 6 with (fail)
      refine rgK [0,1,2,3,4,5,6,7,8] 0 E1 rfl fun hw=>?_
      refine qw 3 hw ?_
      refine qv rfl (fun u hu=>j1f u (H1.out u (nl hu)) rfl) hw ?_
      refine qw 3 hw ?_
      refine qv rfl (fun u hu=>j1f u (H2.out u (nl hu)) rfl) hw ?_
      refine qv rfl (fun u hu=>j7u HX.out.1 HY.out.1 u rfl rfl) hw ?_
      refine eH fun u3 EX2=>?_
      by_cases hxy:x=y
      · have hb:eqL x y=true:=by simp[eqL,hxy]
        rw[hb]
        go_wp2
        go_roundw
        case rel=>exact⟨k+1,by omega,by go_num,EnvX.bel EX2.out,HST.out hxy⟩
        case measure=>simp[intOf];omega
      · have hb:eqL x y=false:=by simp[eqL,hxy]
        have HR:Hid (decide (l=q)=false):=by
         show _=_
         simp[HNE.out hxy]
        rw[hb]
        go_wp2
        go_ret
        exact⟨by rw[HR.out];rfl,EnvX.bel EX2.out⟩
    · obtain rfl:k=n:=by omega
      have HR:Hid (decide (l=q)=true):=by
        have h:=hsame.out
        rw[tL (by rw[HL.out];exact Nat.le_refl _),tL (by rw[HQ.out];exact Nat.le_refl _)]at h
        show _=_
        simp[h]
      clear hsame
      go_wp2
      go_ret
      exact⟨by rw[HR.out];rfl,hbl⟩
 · have hne: ¬(n:Int)=(m:Int):=by omega
   have HR:Hid (decide (l=q)=false):=by
    show _=_
    have:l≠q:=fun e=>hnm (by rw[←HL.out,←HQ.out,e])
    simp[this]
   go_enter func82,ntmps82
   go_wp2
   go_ret
   exact⟨by rw[HR.out];rfl,Below.refl _ _⟩
theorem x3F(l q:List TxM)(A A':Option Addr)(n c m c':Nat)(w:World)(hl:l.length=n)(hn:n≤1000000)(hA:TxsIn w A l)(hl':q.length=m)(hm:m≤1000000)(hA':TxsIn w A' q):
  Rz 83 #[.slice A n c, .slice A' m c', .func (.func 84) #[] #[]] w (.bool (decide (rsT l=rsT q))):=by
 unfold Rz
 have HL:=hD hl
 have HL':=hD hl'
 have HAA:=hD hA
 have HAA':=hD hA'
 have HN63:Hid (n<9223372036854775808):=by show _<_;omega
 have HM63:Hid (m<9223372036854775808):=by show _<_;omega
 have HXS:Hid (∀(t s:TxM)(u:World),EnvX w u []→TxOk w t→TxOk w s→Calls Tryz.prog 84 #[txV t,txV s] u fun e w'=>e= .returned (.bool (j4g t.r s.r))∧Below u.heap.size u w'):=fun t s u hu k1 k2=>q79 t s u (k1.up (EnvX.bel hu)) (k2.up (EnvX.bel hu))
 have E1:Hid (EnvX w w []):=EnvX.start w
 clear hl hn hA hl' hm hA'
 by_cases d4:n=m
 case neg=>
  have D4:Hid (decide ((n:Int)≠(m:Int))=true):=decide_eq_true (by omega)
  have HF:Hid (decide (rsT l=rsT q)=false):=decide_eq_false fun e=>d4 (by have h:=congrArg List.length e;unfold rsT at h;rw[lM,lM,HL.out,HL'.out]at h;exact h)
  clear d4
  go_enter func83,ntmps83
  go_upto_region 1 with (fail)
  refine rgQ [0,1,2,3,4] [] E1 rfl fun hw=>?_
  refine qo rfl hw ?_
  refine qv rfl (fun u hu=>j0l underlying23 HN63.out u rfl) hw ?_
  refine qo rfl hw ?_
  refine qv rfl (fun u hu=>j0l underlying23 HM63.out u rfl) hw ?_
  refine qv rfl (fun u hu=>j36 u D4.out rfl rfl) hw ?_
  refine enP fun u3 EX2=>?_
  go_upto_region 2 with (fail)
  refine rgQ [0] [] EX2 rfl fun hw=>?_
  refine qo rfl hw ?_
  refine enP fun u6 EX5=>?_
  have HBE:=hD (EnvX.bel EX5.out)
  go_wp2
  go_ret
  exact⟨by rw[HF.out];first|done|rfl,HBE.out⟩
 have D4:Hid (decide ((n:Int)≠(n:Int))=false):=decide_eq_false (by omega)
 subst d4
 go_enter func83,ntmps83
 go_upto_region 1 with (fail)
 refine rgQ [0,1,2,3,4] [] E1 rfl fun hw=>?_
 refine qo rfl hw ?_
 refine qv rfl (fun u hu=>j0l underlying23 HN63.out u rfl) hw ?_
 refine qo rfl hw ?_
 refine qv rfl (fun u hu=>j0l underlying23 HM63.out u rfl) hw ?_
 refine qv rfl (fun u hu=>j36 u D4.out rfl rfl) hw ?_
 refine enP fun u3 EX2=>?_
 go_upto_region 3 with (fail)
 refine rgQ [0,1,2] [] EX2 rfl fun hw=>?_
 refine qo rfl hw ?_
 refine qv rfl (fun u hu=>j0l underlying23 HN63.out u rfl) hw ?_
 refine qo rfl hw ?_
 refine enP fun u6 EX5=>?_
 have EJ:=hD EX5.out
 clear EX5 E1
 go_upto_region 4 with (fail)
 go_loopw [17] (fun iv u=> ∃i:Nat,i≤n∧iv= .int .i64 (i:Int)∧Hid ((∀j,j<i→(l.getD j j0A).r=(q.getD j j0A).r)∧EnvX w u [])) (fun iv _=>n- (intOf iv).toNat)
 case atStart=>exact⟨0,by omega,rfl,(fun j hj=>by omega),EJ.out⟩
 case round=>
  obtain⟨i,hi,rfl,hinv⟩:=hrel
  have H1:=hD hinv.out.1
  have EK:=hD hinv.out.2
  clear hinv EJ
  by_cases hlt:i<n
  · have C2:Hid (decide ((i:Int)<(n:Int))=true):=decide_eq_true (by omega)
    have HI:=hD hlt
    have hil:i<l.length:=by rw[HL.out];exact hlt
    have hil':i<q.length:=by rw[HL'.out];exact hlt
    obtain⟨ad,rfl,-,hld⟩:=HAA.out.loads hil
    obtain⟨ad',rfl,-,hld'⟩:=HAA'.out.loads hil'
    have HLD:=hD (And.intro hld hld')
    have HTX:Hid (TxOk w (l.getD i j0A)∧TxOk w (q.getD i j0A)):=⟨HAA.out.get hil,HAA'.out.get hil'⟩
    obtain⟨x,hx⟩: ∃x,l.getD i j0A=x:=⟨_,rfl⟩
    obtain⟨y,hy⟩: ∃y,q.getD i j0A=y:=⟨_,rfl⟩
    have HXY:=hD (And.intro hx hy)
    rw[hx,hy]at HLD HTX
    obtain⟨b,hb⟩: ∃b,j4g x.r y.r=b:=⟨_,rfl⟩
    have HEQ:=hD hb
    have HXB:Hid (Rt w 84 #[txV x,txV y] (.bool b)):=fun u hu=>by have h:=HXS.out x y u hu HTX.out.1 HTX.out.2;rwa[hb]at h
    clear hld hld' hil hil' hlt hx hy hb
    go_upto_region 4 with (fail)
    refine rgQ [0] [] EK rfl fun hw=>?_
    refine qv rfl (fun u hu=>j0o u C2.out rfl rfl) hw ?_
    refine enP fun u23 EX22=>?_
    go_upto_region 5 with (fail)
    refine rgQ [0,1,2] [3,4,5] EX22 rfl fun hw=>?_
    refine qo rfl hw ?_
    refine qv rfl (fun u hu=>j0h underlying23 aggTx.size HI.out u rfl rfl) hw ?_
    refine qv rfl (fun u hu=>j0a u (HLD.out.1 u (nl hu)).1 rfl) hw ?_
    refine j0b<|qn rfl (j6G _) fun g8 HG8 he25=>?_
    refine phE [4] [5] he25 fun hw=>?_
    refine qo rfl hw ?_
    refine j0b<|(sh rfl HG8 (j5i _ (j0Y _)) ((j0Y _).trans (j0Y _).symm) (j3I _) ?_)
    refine fun _=>enL fun u29 EX28=>?_
    go_upto_region 6 with (fail)
    refine rgQ [0,1,2,3] [4,5] EX28 rfl fun hw=>?_
    refine qw 2 hw ?_
    refine qv rfl (fun u hu=>j0h underlying23 aggTx.size HI.out u rfl rfl) hw ?_
    refine qv rfl (fun u hu=>j0a u (HLD.out.2 u (nl hu)).1 rfl) hw ?_
    refine j0b<|qn rfl (j6G _) fun g9 HG9 he31=>?_
    change j1E _ _ _ _ _ _ [(g9,oc (txA j0A) 77),(g8,oc (txA x) 77)]
    refine(sh rfl HG9 (j5i _ (j0Y _)) ((j0Y _).trans (j0Y _).symm) (j3I _) ?_)
    refine fun _=>enL fun u34 EX33=>?_
    cases b with
    | false=>
     have HF:Hid (decide (rsT l=rsT q)=false):=decide_eq_false fun e=>by
      have h:(rsT l).getD i j8a=(rsT q).getD i j8a:=congrArg (fun z:List TxR=>z.getD i j8a) e
      have e1:=j9z (l:=l) (i:=i) (by rw[HL.out];exact HI.out)
      have e2:=j9z (l:=q) (i:=i) (by rw[HL'.out];exact HI.out)
      rw[e1,e2,HXY.out.1,HXY.out.2]at h
      exact of_decide_eq_false HEQ.out h
     go_upto_region 7 with (fail)
     refine rgP [0,1,2,3,4] [] EX33 rfl ?_;intro hw35 hone
     refine qo rfl ⟨_,hw35⟩ ?_
     refine ql rfl (mT mH) trivial ⟨_,hw35⟩ ?_
     refine ql rfl mH trivial ⟨_,hw35⟩ ?_
     (refine j0I (f:=84) (args:= #[txV x,txV y]) (caps:= #[]) (all:= #[txV x,txV y]) (v:= .bool false) rfl rfl rfl rfl rfl func84 rfl rfl (fun u hu=>HXB.out u (nl hu)) ?_ hw35;intro K hK;go_big_quiet_op;go_big_quiet_on)
     refine qo rfl ⟨_,hw35⟩ ?_
     clear hone hw35;refine enP fun u37 EX36=>?_
     go_upto_region 8 with (fail)
     refine rgQ [0] [] EX36 rfl fun hw=>?_
     refine qo rfl hw ?_
     refine enP fun u40 EX39=>?_
     have HBE:=hD (EnvX.bel EX39.out)
     go_wp2
     go_ret
     exact⟨by rw[HF.out];first|done|rfl,HBE.out⟩
    | true=>
     have H3:Hid (∀j,j<i+1→(l.getD j j0A).r=(q.getD j j0A).r):=fun j hj=>by
      rcases Nat.lt_or_ge j i with h|h
      · exact H1.out j h
      · rw[show j=i by omega,HXY.out.1,HXY.out.2];exact of_decide_eq_true HEQ.out
     go_upto_region 7 with (fail)
     refine rgP [0,1,2,3,4] [] EX33 rfl ?_;intro hw35 hone
     refine qo rfl ⟨_,hw35⟩ ?_
     refine ql rfl (mT mH) trivial ⟨_,hw35⟩ ?_
     refine ql rfl mH trivial ⟨_,hw35⟩ ?_
     (refine j0I (f:=84) (args:= #[txV x,txV y]) (caps:= #[]) (all:= #[txV x,txV y]) (v:= .bool true) rfl rfl rfl rfl rfl func84 rfl rfl (fun u hu=>HXB.out u (nl hu)) ?_ hw35;intro K hK;go_big_quiet_op;go_big_quiet_on)
     refine qo rfl ⟨_,hw35⟩ ?_
     clear hone hw35;refine enP fun u37 EX36=>?_
     have hii:=HI.out
     have hn:=HN63.out
     go_wp2
     go_roundw
     case rel=>exact⟨i+1,by omega,by go_num,H3.out,EX36.out.sub (fun _ h=>by cases h)⟩
     case measure=>simp[intOf];omega
  · obtain rfl:i=n:=by omega
    have C2:Hid (decide ((i:Int)<(i:Int))=false):=decide_eq_false (by omega)
    have HF:Hid (decide (rsT l=rsT q)=true):=decide_eq_true (q2f (by rw[HL.out,HL'.out]) (by rw[HL.out];exact H1.out))
    go_upto_region 4 with (fail)
    refine rgQ [0] [] EK rfl fun hw=>?_
    refine qv rfl (fun u hu=>j0o u C2.out rfl rfl) hw ?_
    refine enP fun u203 EX202=>?_
    go_upto_region 10 with (fail)
    refine rgQ [0] [] EX202 rfl fun hw=>?_
    refine qo rfl hw ?_
    refine enP fun u206 EX205=>?_
    have HBE:=hD (EnvX.bel EX205.out)
    go_wp2
    go_ret
    exact⟨by rw[HF.out];first|done|rfl,HBE.out⟩
theorem q7X(b d:BlkM):decide (b.r=d.r)=(eqH b.h d.h&& (decide (b.l=d.l) && decide (rsT b.t=rsT d.t))):=by
 unfold eqH
 rw[Bool.eq_iff_iff]
 simp only[decide_eq_true_eq,Bool.and_eq_true,BlkM.r,BlkR.mk.injEq]
theorem j8W(b d:BlkM)(w:World)(kb:BlkOk w b)(mb:j2c b)(kd:BlkOk w d)(md:j2c d):
  Rz 39 #[j1O b,j1O d] w (.bool (decide (b.r=d.r))):=by
 unfold Rz
 have HKB:Hid (okHd b.h):=kb.h
 have HKD:Hid (okHd d.h):=kd.h
 have HS:=hD (q7X b d)
 have m1:=mb.1
 have m2:=md.1
 have m3:=mb.2.1
 have m4:=md.2.1
 have l1:=kb.l1
 have l2:=kd.l1
 have l3:=kb.l2
 have l4:=kd.l2
 have HIDS:Hid (Rt w 82 #[.slice b.A1 b.n1 b.c1, .slice d.A1 d.n1 d.c1] (.bool (decide (b.l=d.l)))):=fun u hu=>x1g b.l d.l b.A1 d.A1 b.n1 b.c1 d.n1 d.c1 u kb.l1 kd.l1 (by omega) (by omega) kb.b1.1 kb.b1.2 kd.b1.1 kd.b1.2 kb.o1 kd.o1 (kb.m1.up (EnvX.bel hu)) (kd.m1.up (EnvX.bel hu))
 have HLST:Hid (Rt w 83 #[.slice b.A2 b.n2 b.c2, .slice d.A2 d.n2 d.c2, .func (.func 84) #[] #[]] (.bool (decide (rsT b.t=rsT d.t)))):=fun u hu=>x3F b.t d.t b.A2 d.A2 b.n2 b.c2 d.n2 d.c2 u kb.l2 (by omega) (kb.m2.up (EnvX.bel hu)) kd.l2 (by omega) (kd.m2.up (EnvX.bel hu))
 obtain⟨b1,hb1⟩: ∃b1,decide (b.l=d.l)=b1:=⟨_,rfl⟩
 obtain⟨b2,hb2⟩: ∃b2,decide (rsT b.t=rsT d.t)=b2:=⟨_,rfl⟩
 obtain⟨b3,hb3⟩: ∃b3,eqH b.h d.h=b3:=⟨_,rfl⟩
 rw[hb1]at HIDS HS
 rw[hb2]at HLST HS
 rw[hb3]at HS
 have HB3:=hD hb3
 have E1:Hid (EnvX w ((w.alloc (.cells (j0L b) 37)).alloc (.cells (j0L d) 37)) [(w.heap.size+1,oc (j0L d) 37),(w.heap.size,oc (j0L b) 37)]):=(EnvX.start w).two _ _
 clear kb mb kd md m1 m2 m3 m4 l1 l2 l3 l4 hb1 hb2 hb3
 unfold j1O
 go_enter func39,ntmps39
 go_upto_region 1 with (fail)
 generalize (w.alloc (.cells (j0L b) 37)).alloc (.cells (j0L d) 37)=W at *
 cases b3 with
 |false=>
  have HF:Hid (decide (b.r=d.r)=false):=HS.out
  refine rgQ [0,1,2,3,4,5,6,7,8,9,10,11,12,13,14,15,16,17,18,19] [] E1 rfl fun hw=>?_
  refine qf rfl hw ?_
  refine qv rfl (fun u hu=>j0a u (j0B HKB.out.len (j02 hu (mT mH) HKB.out.len)).1 rfl) hw ?_
  refine qf rfl hw ?_
  refine qv rfl (fun u hu=>j0a u (j0B HKD.out.len (j02 hu mH HKD.out.len)).1 rfl) hw ?_
  refine qv rfl (fun u hu=>j63 HKB.out HKD.out HB3.out u rfl rfl) hw ?_
  refine qw 15 hw ?_
  refine enP fun u3 EX2=>?_
  have HBE:=hD (EnvX.bel EX2.out)
  go_wp2
  go_ret
  exact⟨by rw[HF.out];first|done|rfl,HBE.out⟩
 | true=>
  cases b1 with
  |false=>
   have HF:Hid (decide (b.r=d.r)=false):=HS.out
   refine rgQ [0,1,2,3,4,5,6,7,8,9,10,11,12,13,14,15,16,17,18,19] [] E1 rfl fun hw=>?_
   refine qf rfl hw ?_
   refine qv rfl (fun u hu=>j0a u (j0B HKB.out.len (j02 hu (mT mH) HKB.out.len)).1 rfl) hw ?_
   refine qf rfl hw ?_
   refine qv rfl (fun u hu=>j0a u (j0B HKD.out.len (j02 hu mH HKD.out.len)).1 rfl) hw ?_
   refine qv rfl (fun u hu=>j63 HKB.out HKD.out HB3.out u rfl rfl) hw ?_
   refine qw 2 hw ?_
   refine ql rfl (mT mH) HKB.out.len hw ?_
   refine qf rfl hw ?_
   refine ql rfl mH HKD.out.len hw ?_
   refine qc rfl func82 (fun u hu=>HIDS.out u (nl hu)) hw ?_
   refine qw 9 hw ?_
   refine enP fun u3 EX2=>?_
   have HBE:=hD (EnvX.bel EX2.out)
   go_wp2
   go_ret
   exact⟨by rw[HF.out];first|done|rfl,HBE.out⟩
  |true=>
   have HF:Hid (decide (b.r=d.r)=b2):=HS.out
   refine rgQ [0,1,2,3,4,5,6,7,8,9,10,11,12,13,14,15,16,17,18,19] [] E1 rfl fun hw=>?_
   refine qf rfl hw ?_
   refine qv rfl (fun u hu=>j0a u (j0B HKB.out.len (j02 hu (mT mH) HKB.out.len)).1 rfl) hw ?_
   refine qf rfl hw ?_
   refine qv rfl (fun u hu=>j0a u (j0B HKD.out.len (j02 hu mH HKD.out.len)).1 rfl) hw ?_
   refine qv rfl (fun u hu=>j63 HKB.out HKD.out HB3.out u rfl rfl) hw ?_
   refine qw 2 hw ?_
   refine ql rfl (mT mH) HKB.out.len hw ?_
   refine qf rfl hw ?_
   refine ql rfl mH HKD.out.len hw ?_
   refine qc rfl func82 (fun u hu=>HIDS.out u (nl hu)) hw ?_
   refine qw 3 hw ?_
   refine ql rfl (mT mH) HKB.out.len hw ?_
   refine qf rfl hw ?_
   refine ql rfl mH HKD.out.len hw ?_
   refine qc rfl func83 (fun u hu=>HLST.out u (nl hu)) hw ?_
   refine qw 2 hw ?_
   refine enP fun u3 EX2=>?_
   have HBE:=hD (EnvX.bel EX2.out)
   go_wp2
   go_ret
   exact⟨by rw[HF.out];first|done|rfl,HBE.out⟩
def KeptA(N:j0e)(Q:World→Prop):Prop:= ∀(w0 u:World)(M:j0e),EnvX w0 u M→(∀y∈N,y∈M)→Q u
theorem KeptA.mono{N N':j0e}{Q:World→Prop}(h:KeptA N Q)(hN: ∀y∈N,y∈N'):KeptA N' Q:=fun w0 u M hu hM=>h w0 u M hu fun y hy=>hM y (hN y hy)
def j1T(f:FuncId)(args:Array Value)(w:World)(R:Value→j0e→Prop):Prop:=
  Calls Tryz.prog f args w fun e w'=> ∃x N,e= .returned x∧R x N∧Below w.heap.size w w'∧ ∀y∈N,w.heap.size≤y.1∧w'.heap[y.1]?=some y.2
def x2O(l:List TxM)(n:Nat)(x:Value)(N:j0e):Prop:= ∃q A c,x= .slice A n c∧n≤c∧c≤maxLen∧q.length=n∧rsT q=rsT l∧KeptA N (fun u=>TxsIn u A q)
def q8I(r:BlkR)(x:Value)(N:j0e):Prop:= ∃b,x=j1O b∧KeptA N (j5Q r b)∧ ∃v,j5Q r b v
def x4O(r:TipR)(x:Value)(N:j0e):Prop:= ∃t,x=j29 t∧KeptA N (IsTip r t)∧ ∃v,IsTip r t v
theorem j83{l:List (List Int)}{n c:Nat}{A:Option Addr}{N:j0e}(h:FreshR 26 32 n (l.flatten.map u8v) (.slice A n c) N)(hl:l.length=n)(hI:isIds l):KeptA N (fun u=>IdsIn u u.heap.size A l):=
 fun _ _ _ hu hN=>j8L h hI (fun y hy=>hu.box _ _ (hN y hy)) hl
theorem q0b{l:List Tot}{n c:Nat}{A:Option Addr}{N:j0e}(h:FreshR 61 37 n (l.map j11).flatten (.slice A n c) N)(hl:l.length=n)(hI:okTs l):KeptA N (fun u=>TotsIn u u.heap.size A l):=
 fun _ _ _ hu hN=>j5m h hl hI (fun y hy=>hu.box _ _ (hN y hy))
theorem j2W{e:TypeId}{z n c:Nat}{A:Option Addr}{xs:List Value}{N:j0e}(h:FreshR e z n xs (.slice A n c) N)(hl:xs.length=n*z):KeptA N (fun u=>CellsIn u u.heap.size A xs):=
 fun _ _ _ hu hN=>j2k (h.own (B:=0) hl (fun y hy=>⟨Nat.zero_le _,hu.box _ _ (hN y hy)⟩))
theorem q8f{w:World}{x:TxM}(hx:TxOk w x){A4 A7:Option Addr}{c4 c7:Nat}{N4 N7 N:j0e}(h4:FreshR 133 33 x.n1 (x.r.ins.map inC).flatten (.slice A4 x.n1 c4) N4∧x.n1≤c4∧c4≤maxLen)(h7:FreshR 135 2 x.n2 (x.r.outs.map j6Q).flatten (.slice A7 x.n2 c7) N7∧x.n2≤c7∧c7≤maxLen)
  (k4: ∀y∈N4,y∈N) (k7: ∀y∈N7,y∈N):KeptA N (fun u=>TxOk u ⟨x.r,A4,x.n1,c4,A7,x.n2,c7⟩):=fun w0 u M hu hN=>
 ⟨hx.l1,h4.2,hx.o1,j2W h4.1 (by rw[(q8t hx.o1).flat_len,lM,hx.l1]) w0 u M hu (fun y hy=>hN y (k4 y hy)),hx.l2,h7.2,hx.o2,j2W h7.1 (by rw[(q1G _).flat_len,lM,hx.l2]) w0 u M hu (fun y hy=>hN y (k7 y hy))⟩
def CopN(l q:List TxM)(i:Nat)(N:j0e):Prop:=(∀j,j<i→(q.getD j j0A).r=(l.getD j j0A).r∧KeptA N (fun u=>TxOk u (q.getD j j0A)))∧ ∀j,i≤j→q.getD j j0A=l.getD j j0A
theorem CopN.step{l q:List TxM}{i:Nat}{N N':j0e}{t:TxM}(h:CopN l q i N)(hi:i<q.length)(hr:t.r=(l.getD i j0A).r)(hk:KeptA N' (fun u=>TxOk u t))(hN: ∀y∈N,y∈N'):CopN l (q.set i t) (i+1) N':=by
 have hg: ∀j,j≠i→(q.set i t).getD j j0A=q.getD j j0A:=fun j hj=>by
  rw[gD,List.getElem?_set_ne (Ne.symm hj),gD]
 have hs:(q.set i t).getD i j0A=t:=by
  rw[gD,List.getElem?_set_self hi]
  rfl
 refine⟨fun j hj=>?_,fun j hj=>?_⟩
 · by_cases e:j=i
   · subst e
     rw[hs]
     exact⟨hr,hk⟩
   · rw[hg j e]
     have:=h.1 j (by omega)
     exact⟨this.1,this.2.mono hN⟩
 · rw[hg j (by omega)]
   exact h.2 j (by omega)
theorem CopN.done{l q:List TxM}{N:j0e}{n:Nat}(h:CopN l q n N)(hl:l.length=n)(hq:q.length=n):rsT q=rsT l∧ ∀t∈q,KeptA N (fun u=>TxOk u t):=by
 refine⟨q2f (by rw[hq,hl]) (fun j hj=>(h.1 j (by omega)).1),fun t ht=>?_⟩
 obtain⟨j,hj,rfl⟩:=List.getElem_of_mem ht
 have:=(h.1 j (by omega)).2
 rwa[gD,gE hj]at this
def RowX(n c:Nat)(q:List TxM)(cs:Array Value):Prop:=q.length=n∧cs.size=c*2∧cs.toList.take (n*2)=(q.map txC).flatten
def x1x(cs:Array Value)(k:Nat)(t:TxM):Array Value:=(cs.toList.take k++txC t++cs.toList.drop (k+2)).toArray
theorem RowX.set{n c i:Nat}{q:List TxM}{cs:Array Value}(h:RowX n c q cs)(hi:i<n)(hc:n≤c)(t:TxM):RowX n c (q.set i t) (x1x cs (0+i*2) t):=by
 refine⟨by rw[List.length_set];exact h.1,?_,?_⟩
 · unfold x1x
   rw[List.size_toArray]
   exact j74 (z:=2) (v:=txC t) hi hc rfl (by rw[Array.length_toList];exact h.2.1)
 · unfold x1x
   rw[List.map_set]
   exact q70 (z:=2) (j6M q) (by rw[lM];exact h.1) h.2.2 hi rfl
theorem RowX.room{n c i:Nat}{q:List TxM}{cs:Array Value}(h:RowX n c q cs)(hi:i<n)(hc:n≤c):0+i*2+2≤cs.size:=by rw[h.2.1];omega
theorem RowX.get{n c i:Nat}{q:List TxM}{cs:Array Value}(h:RowX n c q cs)(hi:i<n):(cs.toList.drop (0+i*2)).take 2=txC (q.getD i j0A):=by
 rw[x1V (z:=2) (j6M q) (by rw[lM];exact h.1) h.2.2 hi,gD,List.getElem?_map,gD,gE (by rw[h.1];exact hi)]
 rfl
theorem q3u{cs:Array Value}{k:Nat}(hk:k+2≤cs.size)(t:TxM):(Tryz.prog.info? 77).map (·.size)=some (Value.agg (txA t)).cells.size∧k+(Value.agg (txA t)).cells.size≤cs.size∧(Value.agg (txA t)).cells.all (·.oneCell')=true∧cs.toList.take k++(Value.agg (txA t)).cells.toList++cs.toList.drop (k+(Value.agg (txA t)).cells.size)=(x1x cs k t).toList:=
 j6v (v:=txA t) (old:=cs) (cs:=x1x cs k t) aggTx.size rfl (j3I _) hk List.toList_toArray
theorem q32(r:TxR)(A:Option Addr)(n c:Nat)(A':Option Addr)(n' c':Nat):Tryz.prog.built 77 [(0, .slice A n c),(1, .slice A' n' c')]=some (txA ⟨r,A,n,c,A',n',c'⟩):=by
 show _=some (#[Value.slice A n c,Value.slice A' n' c']:Array Value)
 kernel_rfl
theorem q3d(l:List TxM)(A:Option Addr)(n c:Nat)(w:World)(hl:l.length=n)(hn:n≤1000000)(hA:TxsIn w A l)(hf: ∀x∈l,q6x x.r):j1T 125 #[.slice A n c] w (x2O l n):=by
 unfold j1T
 have HL:=hD hl
 have HN6:=hD hn
 have HN63:Hid (n<9223372036854775808):=by show _<_;omega
 have HAA:=hD hA
 have HFW:=hD hf
 have HCL:Hid (∀u,EnvX w u []→Calls Tryz.prog 178 #[.slice A n c] u fun e w'=>(∃v,e= .returned v∧w'.ownsRow u.heap.size 77 2 v n (l.map txC).flatten)∧Below u.heap.size u w'):=fun u hu=>x2f l A n c u hl hn (hA.up (EnvX.bel hu))
 have HCI:Hid (∀(u:World)(x:TxM),EnvX w u []→TxOk w x→q6x x.r→Calls Tryz.prog 152 #[.slice x.A1 x.n1 x.c1] u fun e w'=>(∃v,e= .returned v∧w'.ownsRow u.heap.size 133 33 v x.n1 (x.r.ins.map inC).flatten)∧Below u.heap.size u w'):=fun u x hu hx hf=>q8h x.r.ins x.A1 x.n1 x.c1 u hx.l1 (by have:=hf.1;rw[hx.l1]at this;exact this) hx.o1 (hx.up (EnvX.bel hu)).m1
 have HCO:Hid (∀(u:World)(x:TxM),EnvX w u []→TxOk w x→q6x x.r→Calls Tryz.prog 153 #[.slice x.A2 x.n2 x.c2] u fun e w'=>(∃v,e= .returned v∧w'.ownsRow u.heap.size 135 2 v x.n2 (x.r.outs.map j6Q).flatten)∧Below u.heap.size u w'):=fun u x hu hx hf=>q75 x.r.outs x.A2 x.n2 x.c2 u hx.l2 (by have:=hf.2;rw[hx.l2]at this;exact this) (hx.up (EnvX.bel hu)).m2
 have E1:Hid (EnvX w w []):=EnvX.start w
 clear hl hn hA hf
 go_enter func125,ntmps125
 go_upto_region 1 with (fail)
 refine rgQ [0] [1,2] E1 rfl fun hw=>?_
 refine qo rfl hw ?_
 refine j0b<|qr rfl func178 (fun u hu=>j0i (HCL.out u (nl hu))) ?_
 rintro x N1 hF hf he2
 obtain⟨A1,c1,rfl,k1,k2⟩:=FreshR.formR hF
 have HF:=hD hF
 have HC1:=hD (And.intro k1 k2)
 have HNB:Hid (∀y∈N1,w.heap.size≤y.1):=fun y hy=>(hf y hy).1
 clear hF k1 k2
 clear hf
 refine phE [2] [] he2 fun hw=>?_
 refine qo rfl hw ?_
 refine enP fun u5 EX4=>?_
 go_upto_region 2 with (fail)
 refine rgQ [0,1,2] [] EX4 rfl fun hw=>?_
 refine qo rfl hw ?_
 refine qv rfl (fun u hu=>j0l underlying23 HN63.out u rfl) hw ?_
 refine qo rfl hw ?_
 refine enP fun u8 EX7=>?_
 have HST:Hid (∃q Nx N,q.length=n∧FreshR 77 2 n (q.map txC).flatten (.slice A1 n c1) Nx∧(∀y∈Nx,w.heap.size≤y.1)∧(∀y∈N,w.heap.size≤y.1∧ ∀z∈Nx,y.1≠z.1)∧CopN l q 0 N∧EnvX w u8 (Nx++N)):=
  ⟨l,N1,[],HL.out,HF.out,HNB.out,(fun y hy=>by cases hy),⟨fun j hj=>absurd hj (Nat.not_lt_zero j),fun j _=>rfl⟩,EX7.out⟩
 clear EX7 E1 HF HNB HCL
 go_upto_region 3 with (fail)
 go_loopw [10] (fun iv u=> ∃i:Nat,i≤n∧iv= .int .i64 (i:Int)∧Hid (∃q Nx N,q.length=n∧FreshR 77 2 n (q.map txC).flatten (.slice A1 n c1) Nx∧(∀y∈Nx,w.heap.size≤y.1)∧(∀y∈N,w.heap.size≤y.1∧ ∀z∈Nx,y.1≠z.1)∧CopN l q i N∧EnvX w u (Nx++N))) (fun iv _=>n- (intOf iv).toNat)
 case atStart=>exact⟨0,by omega,rfl,HST⟩
 case round=>
  obtain⟨i,hi,rfl,hinv⟩:=hrel
  obtain⟨q,Nx,N,hq,hF,hB,hN,hCP,hE⟩:=hinv.out
  have EK:=hD hE
  have HCP:=hD hCP
  have HNN:=hD hN
  clear hinv HST hE hCP
  by_cases hlt:i<n
  · have C2:Hid (decide ((i:Int)<(n:Int))=true):=decide_eq_true (by omega)
    rcases hF with ⟨g,cap,cs,e1,rfl,hnc,hcm,hsz,hxs⟩|⟨_,_,h0,_⟩
    case inr=>exact absurd hlt (by rw[h0];exact Nat.not_lt_zero _)
    cases e1
    have HR:Hid (RowX n c1 q cs):=⟨hq,hsz,hxs⟩
    have HG:Hid (w.heap.size≤g):=hB _ (mS.2 rfl)
    have HNG:Hid (∀y∈N,y.1≠g):=fun y hy=>(HNN.out y hy).2 _ (mS.2 rfl)
    have HI:=hD hlt
    have hil:i<l.length:=by rw[HL.out];exact hlt
    have hiq:i<q.length:=by rw[hq];exact hlt
    have HIQ:=hD hiq
    have HTX:Hid (TxOk w (l.getD i j0A)):=HAA.out.get hil
    have HFX:Hid (q6x (l.getD i j0A).r):=HFW.out _ (by rw[gD,gE hil];exact List.getElem_mem hil)
    have hqi:q.getD i j0A=l.getD i j0A:=HCP.out.2 i (Nat.le_refl _)
    have hgt:=HR.out.get hlt
    rw[hqi]at hgt
    obtain⟨x,hx⟩: ∃x,l.getD i j0A=x:=⟨_,rfl⟩
    rw[hx]at HTX HFX hgt
    have HX:=hD hx
    have HGT:=hD hgt
    have HRM:Hid (0+i*2+2≤cs.size):=HR.out.room hlt hnc
    have HCIx:Hid (∀u,EnvX w u []→Calls Tryz.prog 152 #[.slice x.A1 x.n1 x.c1] u fun e w'=>(∃v,e= .returned v∧w'.ownsRow u.heap.size 133 33 v x.n1 (x.r.ins.map inC).flatten)∧Below u.heap.size u w'):=fun u hu=>HCI.out u x hu HTX.out HFX.out
    have HCOx:Hid (∀u,EnvX w u []→Calls Tryz.prog 153 #[.slice x.A2 x.n2 x.c2] u fun e w'=>(∃v,e= .returned v∧w'.ownsRow u.heap.size 135 2 v x.n2 (x.r.outs.map j6Q).flatten)∧Below u.heap.size u w'):=fun u hu=>HCO.out u x hu HTX.out HFX.out
    clear hq hB hN hnc hcm hsz hxs hlt hil hiq hqi hgt hx
    go_upto_region 3 with (fail)
    refine rgQ [0] [] EK rfl fun hw=>?_
    refine qv rfl (fun u hu=>j0o u C2.out rfl rfl) hw ?_
    refine enP fun u23 EX22=>?_
    go_upto_region 4 with (fail)
    refine rgQ [0,1,2] [3,4,5] EX22 rfl fun hw=>?_
    refine qo rfl hw ?_
    refine qv (v:= .pointer (some ⟨g,0+i*2,none⟩)) rfl (fun u hu=>j7W underlying23 aggTx.size HI.out u rfl rfl) hw ?_
    refine qv rfl (fun u hu=>j0a u (j2s aggTx (k:=0+i*2) hu mH (txC x) rfl HGT.out) rfl) hw ?_
    refine j0b<|qn rfl (j6G _) fun g5 HG5 he25=>?_
    refine phE [4] [5] he25 fun hw=>?_
    refine qo rfl hw ?_
    refine j0b<|(sh rfl HG5 (j5i _ (j0Y _)) ((j0Y _).trans (j0Y _).symm) (j3I _) ?_)
    refine fun _=>enL fun u29 EX28=>?_
    have HG5G:Hid (g5≠g):=fun h=>HG5.out.2 (g,oc cs 77) mH h.symm
    go_upto_region 5 with (fail)
    refine rgK [0,1,2,3,5,6] 5 EX28 rfl fun hw=>?_
    refine qw 3 hw ?_
    refine ql rfl mH trivial hw ?_
    refine qf rfl hw ?_
    refine ql rfl mH trivial hw ?_
    refine j0b<|aO 4 (qr rfl func152 (fun u hu=>j0i (HCIx.out u (nl hu))) ?_)
    rintro x9 N4 hF hf he31
    obtain⟨A4,c4,rfl,k1,k2⟩:=FreshR.formR hF
    have HF4:=hD (And.intro hF (And.intro k1 k2))
    have HN4:Hid (∀y∈N4,w.heap.size≤y.1∧y.1≠g):=fun y hy=>⟨(hf y hy).1,fun h=>(hf y hy).2 _ (mT mH) h.symm⟩
    clear hF k1 k2
    clear hf
    change j1s _ _ _ _ _ _ _ _ (N4++((g5,oc (txA x) 77)::((g,oc cs 77)::N)))
    refine aO 7 (qr rfl func153 (fun u hu=>j0i (HCOx.out u (nl hu))) ?_)
    rintro x9 N7 hF hf he32
    obtain⟨A7,c7,rfl,k1,k2⟩:=FreshR.formR hF
    have HF7:=hD (And.intro hF (And.intro k1 k2))
    have HN7:Hid (∀y∈N7,w.heap.size≤y.1∧y.1≠g):=fun y hy=>⟨(hf y hy).1,fun h=>(hf y hy).2 _ (mR (mT mH)) h.symm⟩
    clear hF k1 k2
    have HMM:Hid (∀y∈N7++(N4++((g5,oc (txA x) 77)::N)),y∈N7++(N4++((g5,oc (txA x) 77)::((g,oc cs 77)::N)))∧y.1≠g):=fun y hy=>by
     rcases List.mem_append.1 hy with h|hy
     · exact⟨mL h,(HN7.out y h).2⟩
     rcases List.mem_append.1 hy with h|hy
     · exact⟨mR (mL h),(HN4.out y h).2⟩
     rcases List.mem_cons.1 hy with h|h
     · exact⟨mR (mR (by rw[h];exact mH)),by rw[h];exact HG5G.out⟩
     · exact⟨mR (mR (mT (mT h))),HNG.out y h⟩
    clear hf
    refine phF [8,9] 1 rfl he32 fun hw=>?_
    refine qv (v:= .agg (txA ⟨x.r,A4,x.n1,c4,A7,x.n2,c7⟩)) rfl (fun u hu=>j0p u (q32 x.r A4 x.n1 c4 A7 x.n2 c7)) hw ?_
    refine qv (v:= .pointer (some ⟨g,0+i*2,none⟩)) rfl (fun u hu=>j7W underlying23 aggTx.size HI.out u rfl rfl) hw ?_
    refine j0b<|aO 10 (j33 rfl (g) (0+i*2) (.agg (txA ⟨x.r,A4,x.n1,c4,A7,x.n2,c7⟩)) rfl rfl HG.out 77 (cs) (x1x cs (0+i*2) ⟨x.r,A4,x.n1,c4,A7,x.n2,c7⟩) (mR (mR (mT mH))) (q3u HRM.out ⟨x.r,A4,x.n1,c4,A7,x.n2,c7⟩).1 (q3u HRM.out ⟨x.r,A4,x.n1,c4,A7,x.n2,c7⟩).2.1 (q3u HRM.out ⟨x.r,A4,x.n1,c4,A7,x.n2,c7⟩).2.2.1 (q3u HRM.out ⟨x.r,A4,x.n1,c4,A7,x.n2,c7⟩).2.2.2 ((g,oc (x1x cs (0+i*2) ⟨x.r,A4,x.n1,c4,A7,x.n2,c7⟩) 77)::(N7++(N4++((g5,oc (txA x) 77)::N)))) (mA ⟨.inl rfl,fun y hy=> .inr (HMM.out y hy)⟩) ?_)
    intro he34
    refine eM fun u36 EX35=>?_
    have HK7:Hid (KeptA (N7++(N4++((g5,oc (txA x) 77)::N))) (fun u=>TxOk u ⟨x.r,A4,x.n1,c4,A7,x.n2,c7⟩)):=q8f HTX.out HF4.out HF7.out (fun y hy=>mR (mL hy)) (fun y hy=>mL hy)
    have HCS:Hid (CopN l (q.set i ⟨x.r,A4,x.n1,c4,A7,x.n2,c7⟩) (i+1) (N7++(N4++((g5,oc (txA x) 77)::N)))):=HCP.out.step HIQ.out (by rw[HX.out]) HK7.out (fun y hy=>mR (mR (mT hy)))
    have HRS:=hD (HR.out.set HI.out HC1.out.1 ⟨x.r,A4,x.n1,c4,A7,x.n2,c7⟩)
    have HLO:Hid (∀y∈N7++(N4++((g5,oc (txA x) 77)::N)),w.heap.size≤y.1):=fun y hy=>by
     rcases List.mem_append.1 hy with h|hy
     · exact(HN7.out y h).1
     rcases List.mem_append.1 hy with h|hy
     · exact(HN4.out y h).1
     rcases List.mem_cons.1 hy with h|h
     · rw[h];exact HG5.out.1
     · exact(HNN.out y h).1
    have HNX:Hid (∃q Nx N,q.length=n∧FreshR 77 2 n (q.map txC).flatten (.slice (some ⟨g,0,none⟩) n c1) Nx∧(∀y∈Nx,w.heap.size≤y.1)∧(∀y∈N,w.heap.size≤y.1∧ ∀z∈Nx,y.1≠z.1)∧CopN l q (i+1) N∧EnvX w u36 (Nx++N)):=
     ⟨_,[(g,oc (x1x cs (0+i*2) ⟨x.r,A4,x.n1,c4,A7,x.n2,c7⟩) 77)],_,HRS.out.1, .inl ⟨g,c1,_,rfl,rfl,HC1.out.1,HC1.out.2,HRS.out.2.1,HRS.out.2.2⟩,(fun y hy=>by cases mS.1 hy;exact HG.out),(fun y hy=>⟨HLO.out y hy,fun z hz=>by cases mS.1 hz;exact(HMM.out y hy).2⟩),HCS.out,EX35.out⟩
    have hii:=HI.out
    have hn:=HN63.out
    go_wp2
    go_roundw
    case rel=>exact⟨i+1,by omega,by go_num,HNX⟩
    case measure=>simp[intOf];omega
  · obtain rfl:i=n:=by omega
    have C2:Hid (decide ((i:Int)<(i:Int))=false):=decide_eq_false (by omega)
    have HD:=hD (HCP.out.done HL.out hq)
    have HFF:=hD hF
    have HBB:=hD hB
    have HQ:=hD hq
    clear hF hB hN hq
    go_upto_region 3 with (fail)
    refine rgQ [0] [] EK rfl fun hw=>?_
    refine qv rfl (fun u hu=>j0o u C2.out rfl rfl) hw ?_
    refine enP fun u303 EX302=>?_
    go_upto_region 7 with (fail)
    refine rgQ [0,1] [] EX302 rfl fun hw=>?_
    refine qw 2 hw ?_
    refine enP fun u306 EX305=>?_
    have HBE:=hD (EnvX.bel EX305.out)
    have HBX:=hD (fun(y:Nat × Obj)(hy:y∈Nx++N)=>EnvX.box EX305.out _ _ hy)
    have HRX:Hid (x2O l i (.slice A1 i c1) (Nx++N)):=⟨q,A1,c1,rfl,HC1.out.1,HC1.out.2,HQ.out,HD.out.1,fun w0 u M hu hM=>⟨j2W HFF.out (by rw[(j6M q).flat_len,lM,HQ.out]) w0 u M hu (fun y hy=>hM y (mL hy)),fun t ht=>(HD.out.2 t ht) w0 u M hu (fun y hy=>hM y (mR hy))⟩⟩
    go_wp2
    go_returns
    exact⟨_,_,rfl,HRX.out,HBE.out,fun y hy=>⟨(List.mem_append.1 hy).elim (fun h=>HBB.out y h) (fun h=>(HNN.out y h).1),HBX.out y hy⟩⟩
theorem j8Q(b:BlkM)(w:World)(kb:BlkOk w b)(mb:j2c b):j1T 79 #[j1O b] w (q8I b.r):=by
 unfold j1T
 have HOB:Hid (okHd b.h):=kb.h
 have HLE:Hid (w.heap.size≤w.heap.size+1):=by show _≤_;omega
 have HNB:Hid (j0M noBlkM.h):=j1k
 have l1:=kb.l1
 have m1:=mb.1
 have l2:=kb.l2
 have m2:=mb.2.1
 have HIL:=hD (And.intro kb.l1 kb.o1)
 have HCL:Hid (∀u,EnvX w u []→Calls Tryz.prog 97 #[.slice b.A1 b.n1 b.c1] u fun e w'=>(∃v,e= .returned v∧w'.ownsRow u.heap.size 26 32 v b.n1 ((b.l).flatten.map u8v))∧Below u.heap.size u w'):=fun u hu=>by have h:=j54 b.l b.A1 b.n1 b.c1 u kb.l1 (by omega) kb.o1 (kb.m1.up (EnvX.bel hu));unfold OwnI at h;rw[kb.l1]at h;exact h
 have HCX:Hid (∀u,EnvX w u []→j1T 125 #[.slice b.A2 b.n2 b.c2] u (x2O b.t b.n2)):=fun u hu=>q3d b.t b.A2 b.n2 b.c2 u kb.l2 (by omega) (kb.m2.up (EnvX.bel hu)) mb.2.2
 have E1:Hid (EnvX w ((w.alloc (.cells (j0L b) 37)).alloc (.cells (j0L noBlkM) 37)) [(w.heap.size+1,oc (j0L noBlkM) 37),(w.heap.size,oc (j0L b) 37)]):=(EnvX.start w).two _ _
 clear kb mb l1 m1 l2 m2
 unfold j1O
 go_enter func79,ntmps79
 go_upto_region 1 with (fail)
 rw[←j4w]
 generalize (w.alloc (.cells (j0L b) 37)).alloc (.cells (j0L noBlkM) 37)=W at *
 refine rgK [0,1,2,3,5,6] 4 E1 rfl fun hw=>?_
 refine qf rfl hw ?_
 refine qv rfl (fun u hu=>j0a u (j0B HOB.out.len (j02 hu (mT mH) HOB.out.len)).1 rfl) hw ?_
 refine qf rfl hw ?_
 refine ql rfl (mT mH) HOB.out.len hw ?_
 refine qf rfl hw ?_
 refine ql rfl (mT mH) HOB.out.len hw ?_
 refine j0b<|aO 4 (qr rfl func97 (fun u hu=>j0i (HCL.out u (nl hu))) ?_)
 rintro x N4 hF hf he2
 obtain⟨A4,c4,rfl,k1,k2⟩:=FreshR.formR hF
 have HF4:=hD (And.intro hF (And.intro k1 k2))
 have HN4:Hid (∀y∈N4,w.heap.size≤y.1∧y.1≠w.heap.size+1):=fun y hy=>⟨(hf y hy).1,fun h=>(hf y hy).2 _ mH h.symm⟩
 clear hF k1 k2
 clear hf
 change j1s _ _ _ _ _ _ _ _ (N4++((w.heap.size+1,oc (j0L noBlkM) 37)::((w.heap.size,oc (j0L b) 37)::[])))
 refine aO 7 (qr rfl func125 (fun u hu=>HCX.out u (nl hu)) ?_)
 rintro x N7 hF hf he3
 obtain⟨q7,A7,c7,rfl,k1,k2,kq,kr,kk⟩:=hF
 have HK1:=hD k1
 have HK2:=hD k2
 have HKQ:=hD kq
 have HKR:=hD kr
 have HKK:=hD kk
 have HN7:Hid (∀y∈N7,w.heap.size≤y.1∧y.1≠w.heap.size+1):=fun y hy=>⟨(hf y hy).1,fun h=>(hf y hy).2 _ (mR mH) h.symm⟩
 clear k1 k2 kq kr kk
 clear hf
 refine phF [8] 1 rfl he3 fun hw=>?_
 refine qv (v:= .agg (j0L ⟨b.h,b.l,A4,b.n1,c4,q7,A7,b.n2,c7⟩)) rfl (fun u hu=>j0p u (j7q (b:=⟨b.h,b.l,A4,b.n1,c4,q7,A7,b.n2,c7⟩) HOB.out.len)) hw ?_
 refine j0b<|aO 9 (j0z rfl (w.heap.size+1) (j0L ⟨b.h,b.l,A4,b.n1,c4,q7,A7,b.n2,c7⟩) rfl rfl HLE.out 37 ((j0L noBlkM)) (mR (mR mH)) (j1J _ (j0O (b:=⟨b.h,b.l,A4,b.n1,c4,q7,A7,b.n2,c7⟩) HOB.out.len)) (j1D (b:=⟨b.h,b.l,A4,b.n1,c4,q7,A7,b.n2,c7⟩) HOB.out.len) (j15 _) ((w.heap.size+1,oc (j0L ⟨b.h,b.l,A4,b.n1,c4,q7,A7,b.n2,c7⟩) 37)::(N7++(N4++[]))) (mA ⟨.inl rfl,fun y hy=> .inr ((List.mem_append.1 hy).elim (fun h=>⟨mL h,(HN7.out y h).2⟩) (fun h=>⟨mR (mL (by simpa using h)),(HN4.out y (by simpa using h)).2⟩))⟩) ?_)
 intro he5
 refine eM fun u7 EX6=>?_
 have HIS:Hid (∀w0 u M,EnvX w0 u M→(∀y∈N7++N4,y∈M)→j5Q b.r ⟨b.h,b.l,A4,b.n1,c4,q7,A7,b.n2,c7⟩ u):=fun w0 u M hu hM=>⟨by show BlkR.mk b.h b.l (rsT q7)=BlkR.mk b.h b.l (rsT b.t);rw[HKR.out],⟨HOB.out,HIL.out.1,HF4.out.2,HIL.out.2,j83 HF4.out.1 HIL.out.1 HIL.out.2 w0 u M hu (fun y hy=>hM y (mR hy)),HKQ.out,⟨HK1.out,HK2.out⟩,HKK.out w0 u M hu (fun y hy=>hM y (mL hy))⟩⟩
 have HBX:Hid (∀y∈N7++N4,y∈((w.heap.size+1,oc (j0L ⟨b.h,b.l,A4,b.n1,c4,q7,A7,b.n2,c7⟩) 37)::(N7++(N4++[])))):=fun y hy=>mT (by simpa using hy)
 have HEX:=hD EX6.out
 have HFR:Hid (∀y∈N7++N4,w.heap.size≤y.1∧u7.heap[y.1]?=some y.2):=fun y hy=>⟨(List.mem_append.1 hy).elim (fun h=>(HN7.out y h).1) (fun h=>(HN4.out y h).1),EnvX.box HEX.out _ _ (HBX.out y hy)⟩
 have Q0:=hD (EnvX.box EX6.out _ _ mH)
 have HBEL:=hD EX6.out.bel
 go_wp2_with ((with_reducible refine bodyPost_ret (v:= .agg (j0L ⟨b.h,b.l,A4,b.n1,c4,q7,A7,b.n2,c7⟩)) ?_ ?_ ?_);(exact results_cell_row (p:=2) (ty:=37) results79 _ _ (w.heap.size+1) 37 (j0L ⟨b.h,b.l,A4,b.n1,c4,q7,A7,b.n2,c7⟩) (0,0) _ rfl Q0.out underlying37 rfl (j1J _ (j0O (b:=⟨b.h,b.l,A4,b.n1,c4,q7,A7,b.n2,c7⟩) HOB.out.len)));(rfl))
 first|exact⟨_,N7++N4,rfl,⟨⟨b.h,b.l,A4,b.n1,c4,q7,A7,b.n2,c7⟩,rfl,HIS.out,_,HIS.out _ _ _ HEX.out HBX.out⟩,HBEL.out,HFR.out⟩|exact⟨N7++N4,⟨⟨b.h,b.l,A4,b.n1,c4,q7,A7,b.n2,c7⟩,rfl,HIS.out,_,HIS.out _ _ _ HEX.out HBX.out⟩,HBEL.out,fun a b hy=>HFR.out (a,b) hy⟩
theorem x0m(t:TipM)(w:World)(kt:TipOk w t)(mt:j3f t):j1T 77 #[j29 t] w (x4O t.r):=by
 unfold j1T
 have HLT:Hid (j0M t.b.h):=kt.b.h.len
 have HLE:Hid (w.heap.size≤w.heap.size+1):=by show _≤_;omega
 have l1:=kt.l3
 have m1:=mt.2.1
 have l2:=kt.l4
 have m2:=mt.2.2.1
 have HP:=hD (And.intro kt.l3 kt.o3)
 have HC:=hD (And.intro kt.l4 kt.o4)
 have HCB:Hid (∀u,EnvX w u []→j1T 79 #[j1O t.b] u (q8I t.b.r)):=fun u hu=>j8Q t.b u (kt.b.up (EnvX.bel hu)) ⟨mt.1,mt.2.2.2⟩
 have HCP:Hid (∀u,EnvX w u []→Calls Tryz.prog 64 #[.slice t.A3 t.n3 t.c3] u fun e w'=>(∃v,e= .returned v∧w'.ownsRow u.heap.size 61 37 v t.n3 ((t.p.map j11).flatten))∧Below u.heap.size u w'):=fun u hu=>j52 t.p t.A3 t.n3 t.c3 u kt.l3 (by omega) kt.o3 (CellsIn.up kt.m3 (EnvX.bel hu))
 have HCC:Hid (∀u,EnvX w u []→Calls Tryz.prog 131 #[.slice t.A4 t.n4 t.c4] u fun e w'=>(∃v,e= .returned v∧w'.ownsRow u.heap.size 137 35 v t.n4 ((t.c.map coC).flatten))∧Below u.heap.size u w'):=fun u hu=>j3n t.c t.A4 t.n4 t.c4 u kt.l4 (by omega) kt.o4 (CellsIn.up kt.m4 (EnvX.bel hu))
 have E1:Hid (EnvX w ((w.alloc (.cells (j0j t) 41)).alloc (.cells (j0j noTipM) 41)) [(w.heap.size+1,oc (j0j noTipM) 41),(w.heap.size,oc (j0j t) 41)]):=(EnvX.start w).two _ _
 clear kt mt l1 m1 l2 m2
 unfold j29
 go_enter func77,ntmps77
 go_upto_region 1 with (fail)
 rw[←j2I]
 generalize (w.alloc (.cells (j0j t) 41)).alloc (.cells (j0j noTipM) 41)=W at *
 refine rgK [0,1,3,4,6,7] 5 E1 rfl fun hw=>?_
 refine qf rfl hw ?_
 refine ql rfl (mT mH) HLT.out hw ?_
 refine qf rfl hw ?_
 refine ql rfl (mT mH) HLT.out hw ?_
 refine qf rfl hw ?_
 refine ql rfl (mT mH) HLT.out hw ?_
 refine j0b<|aO 2 (qr rfl func79 (fun u hu=>HCB.out u (nl hu)) ?_)
 rintro x N2 hF hf he2
 obtain⟨b2,rfl,kk,kv⟩:=hF
 have HKK:=hD kk
 have HKV:=hD kv
 have HN2:Hid (∀y∈N2,w.heap.size≤y.1∧y.1≠w.heap.size+1):=fun y hy=>⟨(hf y hy).1,fun h=>(hf y hy).2 _ mH h.symm⟩
 clear kk kv
 have HLB:Hid (j0M b2.h):=by obtain⟨v,hv⟩:=HKV.out;exact hv.2.h.len
 clear hf
 change j1s _ _ _ _ _ _ _ _ (N2++((w.heap.size+1,oc (j0j noTipM) 41)::((w.heap.size,oc (j0j t) 41)::[])))
 refine aO 5 (qr rfl func64 (fun u hu=>j0i (HCP.out u (nl hu))) ?_)
 rintro x N5 hF hf he3
 obtain⟨A5,c5,rfl,k1,k2⟩:=FreshR.formR hF
 have HF5:=hD (And.intro hF (And.intro k1 k2))
 have HN5:Hid (∀y∈N5,w.heap.size≤y.1∧y.1≠w.heap.size+1):=fun y hy=>⟨(hf y hy).1,fun h=>(hf y hy).2 _ (mR mH) h.symm⟩
 clear hF k1 k2
 clear hf
 change j1s _ _ _ _ _ _ _ _ (N5++(N2++((w.heap.size+1,oc (j0j noTipM) 41)::((w.heap.size,oc (j0j t) 41)::[]))))
 refine aO 8 (qr rfl func131 (fun u hu=>j0i (HCC.out u (nl hu))) ?_)
 rintro x N8 hF hf he4
 obtain⟨A8,c8,rfl,k1,k2⟩:=FreshR.formR hF
 have HF8:=hD (And.intro hF (And.intro k1 k2))
 have HN8:Hid (∀y∈N8,w.heap.size≤y.1∧y.1≠w.heap.size+1):=fun y hy=>⟨(hf y hy).1,fun h=>(hf y hy).2 _ (mR (mR mH)) h.symm⟩
 clear hF k1 k2
 clear hf
 refine phF [9] 1 rfl he4 fun hw=>?_
 refine qv (v:= .agg (j0j ⟨b2,t.p,A5,t.n3,c5,t.c,A8,t.n4,c8⟩)) rfl (fun u hu=>j0p u (q0k (t:=⟨b2,t.p,A5,t.n3,c5,t.c,A8,t.n4,c8⟩) HLB.out)) hw ?_
 refine j0b<|aO 10 (j0z rfl (w.heap.size+1) (j0j ⟨b2,t.p,A5,t.n3,c5,t.c,A8,t.n4,c8⟩) rfl rfl HLE.out 41 ((j0j noTipM)) (mR (mR (mR mH))) (j0K _ (j0m (t:=⟨b2,t.p,A5,t.n3,c5,t.c,A8,t.n4,c8⟩) HLB.out)) (j0V (t:=⟨b2,t.p,A5,t.n3,c5,t.c,A8,t.n4,c8⟩) HLB.out) (j0R _) ((w.heap.size+1,oc (j0j ⟨b2,t.p,A5,t.n3,c5,t.c,A8,t.n4,c8⟩) 41)::(N8++(N5++(N2++[])))) (mA ⟨.inl rfl,fun y hy=> .inr ((List.mem_append.1 hy).elim (fun h=>⟨mL h,(HN8.out y h).2⟩) (fun hy=>(List.mem_append.1 hy).elim (fun h=>⟨mR (mL h),(HN5.out y h).2⟩) (fun h=>⟨mR (mR (mL (by simpa using h))),(HN2.out y (by simpa using h)).2⟩)))⟩) ?_)
 intro he6
 refine eM fun u8 EX7=>?_
 have HIS:Hid (∀w0 u M,EnvX w0 u M→(∀y∈N8++(N5++N2),y∈M)→IsTip t.r ⟨b2,t.p,A5,t.n3,c5,t.c,A8,t.n4,c8⟩ u):=fun w0 u M hu hM=>by
  have hb:=HKK.out w0 u M hu (fun y hy=>hM y (mR (mR hy)))
  exact⟨by show TipR.mk b2.r t.p t.c=TipR.mk t.b.r t.p t.c;rw[hb.1],⟨hb.2,HP.out.1,HF5.out.2,HP.out.2,q0b HF5.out.1 HP.out.1 HP.out.2 w0 u M hu (fun y hy=>hM y (mR (mL hy))),HC.out.1,HF8.out.2,HC.out.2,j2W HF8.out.1 (by rw[j3Y HC.out.2.lens,HC.out.1]) w0 u M hu (fun y hy=>hM y (mL hy))⟩⟩
 have HBX:Hid (∀y∈N8++(N5++N2),y∈((w.heap.size+1,oc (j0j ⟨b2,t.p,A5,t.n3,c5,t.c,A8,t.n4,c8⟩) 41)::(N8++(N5++(N2++[]))))):=fun y hy=>mT (by simpa using hy)
 have HEX:=hD EX7.out
 have HFR:Hid (∀y∈N8++(N5++N2),w.heap.size≤y.1∧u8.heap[y.1]?=some y.2):=fun y hy=>⟨(List.mem_append.1 hy).elim (fun h=>(HN8.out y h).1) (fun hy=>(List.mem_append.1 hy).elim (fun h=>(HN5.out y h).1) (fun h=>(HN2.out y h).1)),EnvX.box HEX.out _ _ (HBX.out y hy)⟩
 have Q0:=hD (EnvX.box EX7.out _ _ mH)
 have HBEL:=hD EX7.out.bel
 go_wp2_with ((with_reducible refine bodyPost_ret (v:= .agg (j0j ⟨b2,t.p,A5,t.n3,c5,t.c,A8,t.n4,c8⟩)) ?_ ?_ ?_);(exact results_cell_row (p:=2) (ty:=41) results77 _ _ (w.heap.size+1) 41 (j0j ⟨b2,t.p,A5,t.n3,c5,t.c,A8,t.n4,c8⟩) (0,0) _ rfl Q0.out underlying41 rfl (j0K _ (j0m (t:=⟨b2,t.p,A5,t.n3,c5,t.c,A8,t.n4,c8⟩) HLB.out)));(rfl))
 first|exact⟨_,N8++(N5++N2),rfl,⟨⟨b2,t.p,A5,t.n3,c5,t.c,A8,t.n4,c8⟩,rfl,HIS.out,_,HIS.out _ _ _ HEX.out HBX.out⟩,HBEL.out,HFR.out⟩|exact⟨N8++(N5++N2),⟨⟨b2,t.p,A5,t.n3,c5,t.c,A8,t.n4,c8⟩,rfl,HIS.out,_,HIS.out _ _ _ HEX.out HBX.out⟩,HBEL.out,fun a b hy=>HFR.out (a,b) hy⟩
theorem j5F(k:Int)(w:World):
   Rz 73 #[.int .i64 k] w (.bool (decide (0≤k∧k≤1048576))):=by
 unfold Rz
 by_cases h0:0≤k
 · by_cases h1:k≤1048576
   · go_enter func73,ntmps73
     go_wp2
     go_ret
     exact⟨by simp[h0,h1],Below.refl _ _⟩
   · go_enter func73,ntmps73
     go_wp2
     go_ret
     exact⟨by simp[h1],Below.refl _ _⟩
 · go_enter func73,ntmps73
   go_wp2
   go_ret
   exact⟨by simp;omega,Below.refl _ _⟩
section
variable {a:Act}{dst:Option Tmp}{x0 x1 x2 x3 x4 x5 x6 x7:Operand}{ty:TypeId}{pos:String}{after:Array Edge}{gd:Option (Nat × Bool)}
def x3M(A0 A1 A2 A3 A4 A5 A6 A7:Option Addr)(n0 c0 n1 c1 n2 c2 n3 c3 n4 c4 n5 c5 n6 c6 n7 c7:Nat):Array Value:= #[.slice A0 n0 c0, .slice A1 n1 c1, .slice A2 n2 c2, .slice A3 n3 c3, .slice A4 n4 c4, .slice A5 n5 c5, .slice A6 n6 c6, .slice A7 n7 c7]
theorem q7I{A0 A1 A2 A3 A4 A5 A6 A7:Option Addr}{n0 c0 n1 c1 n2 c2 n3 c3 n4 c4 n5 c5 n6 c6 n7 c7:Nat}(h0:a.eval x0= .slice A0 n0 c0)(h1:a.eval x1= .slice A1 n1 c1)(h2:a.eval x2= .slice A2 n2 c2)(h3:a.eval x3= .slice A3 n3 c3)(h4:a.eval x4= .slice A4 n4 c4)(h5:a.eval x5= .slice A5 n5 c5)(h6:a.eval x6= .slice A6 n6 c6)(h7:a.eval x7= .slice A7 n7 c7)(u:World):
  FAt Tryz.prog ⟨dst, .buildSlice 139 8 #[(0,x0),(1,x1),(2,x2),(3,x3),(4,x4),(5,x5),(6,x6),(7,x7)],ty,pos,after,gd⟩ a (fun v N=> ∃g,v= .slice (some ⟨g,0,none⟩) 8 8∧N=[(g,oc (x3M A0 A1 A2 A3 A4 A5 A6 A7 n0 c0 n1 c1 n2 c2 n3 c3 n4 c4 n5 c5 n6 c6 n7 c7) 100)]) u:=by
 have h:(execOp a.eval ⟨dst, .buildSlice 139 8 #[(0,x0),(1,x1),(2,x2),(3,x3),(4,x4),(5,x5),(6,x6),(7,x7)],ty,pos,after,gd⟩).run Tryz.prog u= .ok (.value (.slice (some ⟨u.heap.size,0,none⟩) 8 8)) (u.alloc (.cells (x3M A0 A1 A2 A3 A4 A5 A6 A7 n0 c0 n1 c1 n2 c2 n3 c3 n4 c4 n5 c5 n6 c6 n7 c7) 100)):=by
  unfold execOp x3M
  simp only[List.map_toArray,List.map_cons,List.map_nil,h0,h1,h2,h3,h4,h5,h6,h7]
  go_simp
 unfold FAt
 rw[h]
 refine⟨(Below.refl _ _).alloc (Nat.le_refl _) _,_,⟨_,rfl,rfl⟩,fun y hy=>?_⟩
 cases mS.1 hy
 exact⟨Nat.le_refl _,heap_alloc_new u _⟩
end
theorem x3g(h:Hd)(w:World)(hh:okHd h)(k:j2V h=false):
  Calls Tryz.prog 67 #[hdV h] w fun e w'=>(∃v,e= .returned (.tuple #[v, .bool (j9L h).2])∧OwnB w' w.heap.size v (j9L h).1)∧Below w.heap.size w w':=by
 have hp:j9L h=([],false):=by unfold j9L;rw[if_neg (by rw[k];exact Bool.noConfusion)]
 rw[hp]
 have E1:Hid (EnvX w (w.alloc (.cells (hdA h) 34)) [(w.heap.size,oc (hdA h) 34)]):=(EnvX.start w).new _
 have HMH:Hid (∀u,Calls Tryz.prog 73 #[.int .i64 h.height] u fun e w'=>e= .returned (.bool (j2V h))∧Below u.heap.size u w'):=fun u=>j5F h.height u
 rw[k]at HMH
 clear hh k hp
 unfold hdV
 go_enter func67,ntmps67
 go_upto_region 1 with (fail)
 generalize w.alloc (.cells (hdA h) 34)=W at *
 refine rgQ [0,1,2,3] [] E1 rfl fun hw=>?_
 refine qo rfl hw ?_
 refine ql rfl mH trivial hw ?_
 refine qc rfl func73 (fun u hu=>HMH.out u) hw ?_
 refine qo rfl hw ?_
 refine enP fun u3 EX2=>?_
 have HBE:=hD (EnvX.bel EX2.out)
 go_wp2
 go_returns
 exact⟨⟨_,rfl,OwnB.nil _ _⟩,HBE.out⟩
theorem x09(h:Hd)(w:World)(hh:okHd h)(k:j2V h=true):
  Calls Tryz.prog 67 #[hdV h] w fun e w'=>(∃v,e= .returned (.tuple #[v, .bool (j9L h).2])∧OwnB w' w.heap.size v (j9L h).1)∧Below w.heap.size w w':=by
 have hp:j9L h=(j4o h,true):=by unfold j9L;rw[if_pos k]
 rw[hp]
 have hm:0≤h.height∧h.height≤1048576:=of_decide_eq_true k
 have HL:=hD hh.len
 have HOK:=hD hh
 have HBL:=hD (And.intro (j9i hh) (q0P hh))
 have HU:Hid (h.height.toNat<18446744073709551616∧IntKind.u64.wrap h.height=((h.height.toNat:Nat):Int)):=by
  rw[IntKind.wrap_u64]
  exact⟨by omega,by omega⟩
 have HN32:Hid (h.bits<18446744073709551616∧IntKind.u64.wrap (h.bits:Int)=((h.bits:Nat):Int)):=by
  have:=hh.2.2.2.2.2.2.1
  rw[IntKind.wrap_u64]
  exact⟨by omega,by omega⟩
 have HN64:Hid (h.nonce<18446744073709551616):=hh.2.2.2.2.2.2.2
 have HBY:Hid (∀u,Calls Tryz.prog 111 #[.agg (wcs h.work)] u fun e w'=>e= .returned (.agg (j0d 32 (j3c h.work)))∧Below u.heap.size u w'):=fun u=>j93 h.work u
 have HPT:Hid (∀(n k:Nat),n<18446744073709551616→k≤8→ ∀u,Calls Tryz.prog 113 #[.int .u64 (n:Int), .int .i64 k] u fun e w'=>(∃v,e= .returned v∧OwnB w' u.heap.size v (j2O n k))∧Below u.heap.size u w'):=fun n k hn hk u=>q1J n k u hn hk
 have HCC:Hid (∀u g,Parts u u.heap.size (some ⟨g,0,none⟩) [j2O h.height.toNat 4,h.prev,h.links,h.txs,h.past,j3c h.work,j2O h.bits 4,j2O h.nonce 8]→Calls Tryz.prog 112 #[.slice (some ⟨g,0,none⟩) 8 8] u fun e w'=>(∃v,e= .returned v∧w'.ownsRow u.heap.size 5 1 v 176 ((j4o h).map u8v))∧Below u.heap.size u w'):=fun u g hP=>by
  have hf:([j2O h.height.toNat 4,h.prev,h.links,h.txs,h.past,j3c h.work,j2O h.bits 4,j2O h.nonce 8]:List (List Int)).flatten=j4o h:=by simp[j4o]
  have hl:=j9i hh
  have k:=j8T (some ⟨g,0,none⟩) 8 8 _ u rfl hP (by omega) (by rw[hf,hl];omega) (by rw[hf,hl];omega)
  rw[hf]at k
  unfold OwnB at k
  rwa[hl]at k
 have HZ:Hid ((j0d 32 (j3c h.work)).size=32):=j0c _ _ (by rw[j5a];omega)
 have HSW:Hid (((j0d 32 (j3c h.work)).toList.drop 0).take ((j3c h.work).map u8v).length=(j3c h.work).map u8v):=by
  show _=_
  rw[j1F (j5a _),List.drop_zero,List.take_length]
 clear hm
 have E1:Hid (EnvX w (w.alloc (.cells (hdA h) 34)) [(w.heap.size,oc (hdA h) 34)]):=(EnvX.start w).new _
 have HMH:Hid (∀u,Calls Tryz.prog 73 #[.int .i64 h.height] u fun e w'=>e= .returned (.bool (j2V h))∧Below u.heap.size u w'):=fun u=>j5F h.height u
 rw[k]at HMH
 clear hh k hp
 unfold hdV
 go_enter func67,ntmps67
 go_upto_region 1 with (fail)
 generalize w.alloc (.cells (hdA h) 34)=W at *
 refine rgQ [0,1,2,3] [] E1 rfl fun hw=>?_
 refine qo rfl hw ?_
 refine ql rfl mH trivial hw ?_
 refine qc rfl func73 (fun u hu=>HMH.out u) hw ?_
 refine qo rfl hw ?_
 refine enP fun u3 EX2=>?_
 go_upto_region 3 with (fail)
 refine rgQ [0,1,2] [3,4] EX2 rfl fun hw=>?_
 refine qo rfl hw ?_
 refine ql rfl mH HL.out hw ?_
 refine qc rfl func111 (fun u hu=>HBY.out u) hw ?_
 refine j0b<|qn rfl (q0m _) fun gw HGW he5=>?_
 change j1E _ _ _ _ _ _ [(gw,oc (j0d 32 []) 26),(w.heap.size,oc (hdA h) 34)]
 refine(sh rfl HGW (j08 _ HZ.out) ((j0c _ _ (by simp)).trans HZ.out.symm) (j0Q _ _) ?_)
 refine fun _=>enL fun u8 EX7=>?_
 go_upto_region 4 with (fail)
 refine rgK [0,1,2,4,5,6,7,8,9,10,11,12,13,14,15,17,18] 7 EX7 rfl fun hw=>?_
 refine qo rfl hw ?_
 refine ql rfl (mT mH) trivial hw ?_
 refine qv (v:= .int .u64 ((h.height.toNat:Nat):Int)) rfl (fun u hu=>j2C u HU.out.2 rfl) hw ?_
 refine qo rfl hw ?_
 refine qv (v:= .slice (some ⟨w.heap.size,1,none⟩) 32 32) rfl (fun u hu=>j1R u rfl) hw ?_
 refine qo rfl hw ?_
 refine qv (v:= .slice (some ⟨w.heap.size,33,none⟩) 32 32) rfl (fun u hu=>j1R u rfl) hw ?_
 refine qo rfl hw ?_
 refine qv (v:= .slice (some ⟨w.heap.size,65,none⟩) 32 32) rfl (fun u hu=>j1R u rfl) hw ?_
 refine qo rfl hw ?_
 refine qv (v:= .slice (some ⟨w.heap.size,97,none⟩) 32 32) rfl (fun u hu=>j1R u rfl) hw ?_
 refine qv (v:= .slice (some ⟨gw,0,none⟩) 32 32) rfl (fun u hu=>j1R u rfl) hw ?_
 refine qo rfl hw ?_
 refine ql rfl (mT mH) HL.out hw ?_
 refine qv (v:= .int .u64 ((h.bits:Nat):Int)) rfl (fun u hu=>q7b u HN32.out.2 rfl) hw ?_
 refine qo rfl hw ?_
 refine ql rfl (mT mH) HL.out hw ?_
 refine j0b<|aO 3 (qr (R:=FreshR 5 1 4 ((j2O h.height.toNat 4).map u8v)) rfl func113 (fun u hu=>by have h:=j0i (HPT.out h.height.toNat 4 HU.out.1 (by omega) u);rw[j0S]at h;exact h) ?_)
 rintro x N hF hf he10
 obtain⟨g0,capg0,curg0,rfl,rfl,hcg0⟩|⟨_,_,h0,_⟩:=hF
 case inr=>cases h0
 have HCg0:=hD hcg0
 clear hcg0
 clear hf
 change j1s _ _ _ _ _ _ _ _ [(g0,oc curg0 5),(gw,oc (j0d 32 (j3c h.work)) 26),(w.heap.size,oc (hdA h) 34)]
 refine aO 16 (qr (R:=FreshR 5 1 4 ((j2O h.bits 4).map u8v)) rfl func113 (fun u hu=>by have h:=j0i (HPT.out h.bits 4 HN32.out.1 (by omega) u);rw[j0S]at h;exact h) ?_)
 rintro x N hF hf he11
 obtain⟨gp,capgp,curgp,rfl,rfl,hcgp⟩|⟨_,_,h0,_⟩:=hF
 case inr=>cases h0
 have HCgp:=hD hcgp
 clear hcgp
 clear hf
 change j1s _ _ _ _ _ _ _ _ [(gp,oc curgp 5),(g0,oc curg0 5),(gw,oc (j0d 32 (j3c h.work)) 26),(w.heap.size,oc (hdA h) 34)]
 refine aO 19 (qr (R:=FreshR 5 1 8 ((j2O h.nonce 8).map u8v)) rfl func113 (fun u hu=>by have h:=j0i (HPT.out h.nonce 8 HN64.out (by omega) u);rw[j0S]at h;exact h) ?_)
 rintro x N hF hf he12
 obtain⟨gq,capgq,curgq,rfl,rfl,hcgq⟩|⟨_,_,h0,_⟩:=hF
 case inr=>cases h0
 have HCgq:=hD hcgq
 clear hcgq
 clear hf
 change j1s _ _ _ _ _ _ _ _ [(gq,oc curgq 5),(gp,oc curgp 5),(g0,oc curg0 5),(gw,oc (j0d 32 (j3c h.work)) 26),(w.heap.size,oc (hdA h) 34)]
 refine aO 20 (j0k (R:=fun v N=> ∃g,v= .slice (some ⟨g,0,none⟩) 8 8∧N=[(g,oc (x3M (some ⟨g0,0,none⟩) (some ⟨w.heap.size,1,none⟩) (some ⟨w.heap.size,33,none⟩) (some ⟨w.heap.size,65,none⟩) (some ⟨w.heap.size,97,none⟩) (some ⟨gw,0,none⟩) (some ⟨gp,0,none⟩) (some ⟨gq,0,none⟩) 4 capg0 32 32 32 32 32 32 32 32 32 32 4 capgp 8 capgq) 100)]) (M0:=[(gq,oc curgq 5),(gp,oc curgp 5),(g0,oc curg0 5),(gw,oc (j0d 32 (j3c h.work)) 26),(w.heap.size,oc (hdA h) 34)]) rfl rfl (fun _ h=>h) (fun u hu=>q7I rfl rfl rfl rfl rfl rfl rfl rfl u) ?_)
 rintro _ _ ⟨gr,rfl,rfl⟩ hf he13;intro K' hK';go_big_quiet_op;go_big_quiet_on
 clear hf
 change j1s _ _ _ _ _ _ _ _ [(gr,oc (x3M (some ⟨g0,0,none⟩) (some ⟨w.heap.size,1,none⟩) (some ⟨w.heap.size,33,none⟩) (some ⟨w.heap.size,65,none⟩) (some ⟨w.heap.size,97,none⟩) (some ⟨gw,0,none⟩) (some ⟨gp,0,none⟩) (some ⟨gq,0,none⟩) 4 capg0 32 32 32 32 32 32 32 32 32 32 4 capgp 8 capgq) 100),(gq,oc curgq 5),(gp,oc curgp 5),(g0,oc curg0 5),(gw,oc (j0d 32 (j3c h.work)) 26),(w.heap.size,oc (hdA h) 34)]
 refine aO 21 (qr (R:=FreshR 5 1 176 ((j4o h).map u8v)) rfl func112 (fun u hu=>j0i (HCC.out u gr (q1y (EnvX.lt hu mH) (PartsAt.cons (by have h:=j0n (k:=0) hu mH rfl;exact h) (j0S _ _) (j06 hu (mT (mT (mT mH))) (j0S _ _) HCg0.out) (j2N _ 4) (PartsAt.cons (by have h:=j0n (k:=1) hu mH rfl;exact h) HL.out.1 (j3s (EnvX.lt hu (mT (mT (mT (mT (mT mH)))))) (j1p hu (mT (mT (mT (mT (mT mH))))) (q2r HL.out))) HOK.out.2.1.2 (PartsAt.cons (by have h:=j0n (k:=2) hu mH rfl;exact h) HL.out.2.1 (j3s (EnvX.lt hu (mT (mT (mT (mT (mT mH)))))) (j1p hu (mT (mT (mT (mT (mT mH))))) (q1c HL.out))) HOK.out.2.2.1.2 (PartsAt.cons (by have h:=j0n (k:=3) hu mH rfl;exact h) HL.out.2.2.1 (j3s (EnvX.lt hu (mT (mT (mT (mT (mT mH)))))) (j1p hu (mT (mT (mT (mT (mT mH))))) (q5y HL.out))) HOK.out.2.2.2.1.2 (PartsAt.cons (by have h:=j0n (k:=4) hu mH rfl;exact h) HL.out.2.2.2 (j3s (EnvX.lt hu (mT (mT (mT (mT (mT mH)))))) (j1p hu (mT (mT (mT (mT (mT mH))))) (q2w HL.out))) HOK.out.2.2.2.2.1.2 (PartsAt.cons (by have h:=j0n (k:=5) hu mH rfl;exact h) (j5a _) (j3s (EnvX.lt hu (mT (mT (mT (mT mH))))) (j1p hu (mT (mT (mT (mT mH)))) HSW.out)) (j7o _) (PartsAt.cons (by have h:=j0n (k:=6) hu mH rfl;exact h) (j0S _ _) (j06 hu (mT (mT mH)) (j0S _ _) HCgp.out) (j2N _ 4) (PartsAt.cons (by have h:=j0n (k:=7) hu mH rfl;exact h) (j0S _ _) (j06 hu (mT mH) (j0S _ _) HCgq.out) (j2N _ 8) PartsAt.nil))))))))))) ?_)
 rintro x N hF hf he14
 obtain⟨gc,capc,curc,rfl,rfl,hcc⟩|⟨_,_,h0,_⟩:=hF
 case inr=>cases h0
 have HCC2:=hD hcc
 have HGC:=hD (hf _ (mS.2 rfl))
 clear hcc
 clear hf
 refine phF [22,23] 0 rfl he14 fun hw=>?_
 refine qw 2 hw ?_
 refine eH fun u17 EX16=>?_
 go_wp2
 go_returns
 refine⟨⟨_,rfl,?_⟩,EnvX.bel EX16.out⟩
 unfold OwnB
 rw[HBL.out.1]
 exact⟨by rw[lM,HBL.out.1], .inr ⟨gc,capc,curc,rfl,HGC.out.1,EnvX.box EX16.out _ _ mH,HCC2.out⟩⟩
theorem q3e(h:Hd)(w:World)(hh:okHd h):
  Calls Tryz.prog 67 #[hdV h] w fun e w'=>(∃v,e= .returned (.tuple #[v, .bool (j9L h).2])∧OwnB w' w.heap.size v (j9L h).1)∧Below w.heap.size w w':=by
 cases k:j2V h with
 |true=>exact x09 h w hh k
 |false=>exact x3g h w hh k
end Go.Proofs.YtojmeodoenkapaaGreatDoor
