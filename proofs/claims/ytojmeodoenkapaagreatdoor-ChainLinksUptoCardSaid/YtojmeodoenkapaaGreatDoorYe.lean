/- Part of a proof. -/
import Derived.Test.YtojmeodoenkapaaGreatDoorYd
open Go.Proofs.Tryz
namespace Go.Proofs.YtojmeodoenkapaaGreatDoor
set_option maxRecDepth 20000
set_option maxHeartbeats 8000000
set_option linter.unusedVariables false
set_option linter.unusedSimpArgs false
def stepC(x:TipR × Nat)(b:BlkR):TipR × Nat:=if x.2=0 then (if (pushK x.1 b).2=0 then pushK x.1 b else (noTip,(pushK x.1 b).2))else x
def startC(b:BlkR):TipR × Nat:=if isC b.h.bits=true∧(tipK b.h.bits).b=b then (tipK b.h.bits,0)else (noTip,12)
def checkC:List BlkR→TipR × Nat
  |[]=>(noTip,9)
  |b::r=>r.foldl stepC (startC b)
def newB(bits:Nat):List BlkR × Bool:=if isC bits=true then ([(tipK bits).b],true)else ([],false)
def growC(l:List BlkR)(t:List TxR)(nonce:Nat):List BlkR × Nat:=
  if (checkC l).2≠0 then (l,(checkC l).2)else
  if (mineK (checkC l).1 t nonce 200).2≠0 then (l,(mineK (checkC l).1 t nonce 200).2)else (l++[(mineK (checkC l).1 t nonce 200).1],0)
def findB:List BlkR→List Int→Int
  |[],_=> -1
  |b::r,id=>if idH b.h=id then 0 else if findB r id<0 then-1 else findB r id+1
def levelsB(l:List BlkR):List Int:=l.map fun b=>levelH b.h
def leavesB(l:List BlkR):List Tot:=l.map fun b=>leafH b.h
abbrev atB(l:List BlkR)(i:Nat):BlkR:=l.getD i noBlk
def tipB(l:List BlkR)(k:Nat):TipR:=(checkC (l.take k)).1
theorem start_first{bits:Nat}(h:isC bits=true):startC (tipK bits).b=(tipK bits,0):=by
 show (if isC bits=true∧(tipK bits).b=(tipK bits).b then (tipK bits,0)else (noTip,12))=_
 rw[if_pos ⟨h,rfl⟩]
theorem check_single(b:BlkR):checkC [b]=startC b:=rfl
theorem fold_err: ∀(q:List BlkR){x:TipR × Nat},x.2≠0→q.foldl stepC x=x
 |[],_,_=>rfl
 |b::q,x,h=>by
  show q.foldl stepC (stepC x b)=x
  rw[show stepC x b=x from if_neg h]
  exact fold_err q h
theorem check_app{l:List BlkR}(h:l≠[])(q:List BlkR):checkC (l++q)=q.foldl stepC (checkC l):=by
 cases l with
 |nil=>exact absurd rfl h
 |cons b r=>exact List.foldl_append ..
theorem check_snoc{l:List BlkR}(h:l≠[])(b:BlkR):checkC (l++[b])=stepC (checkC l) b:=check_app h [b]
theorem take_ne{l:List BlkR}{k:Nat}(h1:1≤k)(h2:k≤l.length):l.take k≠[]:=fun h=>by
 have e:=congrArg List.length h
 rw[List.length_take,List.length_nil]at e
 omega
theorem take_snocB{l:List BlkR}{k:Nat}(h:k<l.length):l.take (k+1)=l.take k++[atB l k]:=by
 rw[List.take_add_one,gE h]
 unfold atB
 rw[gD,gE h]
 rfl
theorem check_take{l:List BlkR}{k:Nat}(h1:1≤k)(h2:k<l.length):checkC (l.take (k+1))=stepC (checkC (l.take k)) (atB l k):=by
 rw[take_snocB h2,check_snoc (take_ne h1 (by omega))]
theorem check_one{l:List BlkR}(h:1≤l.length):checkC (l.take 1)=startC (atB l 0):=by
 cases l with
 |nil=>exact absurd h (by decide)
 |cons b r=>rfl
theorem check_cut{l:List BlkR}{k:Nat}(h1:1≤k)(h2:k≤l.length):checkC l=(l.drop k).foldl stepC (checkC (l.take k)):=by
 rw[←check_app (take_ne h1 h2),List.take_append_drop]
theorem check_bad{l:List BlkR}{k:Nat}(h1:1≤k)(h2:k≤l.length)(h:(checkC (l.take k)).2≠0):checkC l=checkC (l.take k):=by
 rw[check_cut h1 h2,fold_err _ h]
theorem check_pre{l:List BlkR}{k:Nat}(h:(checkC l).2=0)(h1:1≤k)(h2:k≤l.length):(checkC (l.take k)).2=0:=by
 refine Classical.byContradiction fun hn=>?_
 rw[check_bad h1 h2 hn]at h
 exact hn h
theorem start_err{b:BlkR}(h:(startC b).2≠0):startC b=(noTip,12):=by
 unfold startC at h ⊢
 split
 · rename_i k
   rw[if_pos k]at h
   exact absurd rfl h
 · rfl
theorem step_tip{x:TipR × Nat}{b:BlkR}(hx:x.2≠0→x.1=noTip)(h:(stepC x b).2≠0):(stepC x b).1=noTip:=by
 unfold stepC at h ⊢
 split
 · rename_i k
   rw[if_pos k]at h
   split
   · rename_i k2
     rw[if_pos k2]at h
     exact absurd k2 h
   · rfl
 · rename_i k
   exact hx k
theorem fold_tip: ∀(q:List BlkR){x:TipR × Nat},(x.2≠0→x.1=noTip)→(q.foldl stepC x).2≠0→(q.foldl stepC x).1=noTip
 |[],_,hx,h=>hx h
 |b::q,x,hx,h=>fold_tip q (x:=stepC x b) (step_tip hx) h
theorem check_tip{l:List BlkR}(h:(checkC l).2≠0):(checkC l).1=noTip:=by
 cases l with
 |nil=>rfl
 |cons b r=>exact fold_tip r (fun k=>by rw[start_err k]) h
theorem check_some{l:List BlkR}(h:(checkC l).2=0):1≤l.length:=by
 cases l with
 |nil=>exact absurd h (by decide)
 |cons b r=>exact Nat.le_add_left ..
section
variable {l:List BlkR}
theorem tip_whole:tipB l l.length=(checkC l).1:=by unfold tipB;rw[List.take_length]
theorem ch_first(h:(checkC l).2=0):isC (atB l 0).h.bits=true∧atB l 0=(tipK (atB l 0).h.bits).b∧tipB l 1=tipK (atB l 0).h.bits:=by
 have h1:=check_some h
 have h2:=check_pre h (Nat.le_refl 1) h1
 have e:=check_one h1
 rw[e]at h2
 have k:isC (atB l 0).h.bits=true∧(tipK (atB l 0).h.bits).b=atB l 0:=by
  refine Classical.byContradiction fun hn=>?_
  unfold startC at h2
  rw[if_neg hn]at h2
  exact absurd h2 (by decide)
 refine⟨k.1,k.2.symm,?_⟩
 unfold tipB
 rw[e]
 unfold startC
 rw[if_pos k]
theorem ch_push(h:(checkC l).2=0){k:Nat}(h1:1≤k)(h2:k<l.length):pushK (tipB l k) (atB l k)=(tipB l (k+1),0):=by
 have a:=check_pre h h1 (by omega)
 have b:=check_pre h (k:=k+1) (by omega) (by omega)
 have e:=check_take h1 h2
 rw[e]at b
 unfold stepC at b e
 rw[if_pos a]at b e
 unfold tipB
 by_cases c:(pushK (checkC (l.take k)).1 (atB l k)).2=0
 · rw[if_pos c]at e
   rw[e,←c]
 · rw[if_neg c]at b
   exact absurd b c
theorem ch_last(h:(checkC l).2=0){k:Nat}(h2:k<l.length):(tipB l (k+1)).b=atB l k:=by
 cases k with
 |zero=>rw[(ch_first h).2.2];exact(ch_first h).2.1.symm
 |succ k=>rw[(push_ok (ch_push h (by omega) h2)).2.2.2.2.2]
theorem ch_peaks(h:(checkC l).2=0): ∀{k:Nat},k<l.length→(tipB l (k+1)).p=peaksT ((leavesB l).take (k+1))
 | 0,h2=>by
  have e:=ch_first h
  rw[e.2.2]
  cases l with
  |nil=>exact absurd h2 (by decide)
  |cons b r=>
   show [leafH (headK b.h.bits)]=[leafH b.h]
   have e2:b=(tipK b.h.bits).b:=e.2.1
   rw[e2]
   rfl
 | k+1,h2=>by
  have e:=(push_ok (ch_push h (k:=k+1) (by omega) h2)).2.2.2.2.2
  rw[e]
  show appT (tipB l (k+1)).p (leafH (atB l (k+1)).h)=_
  rw[ch_peaks h (k:=k) (by omega)]
  have hl:(leavesB l)[k+1]?=some (leafH (atB l (k+1)).h):=by
   unfold leavesB atB
   rw[List.getElem?_map,gD,gE h2]
   rfl
  rw[List.take_add_one (i:=k+1),hl]
  unfold peaksT
  rw[List.foldl_append]
  rfl
theorem ch_head(h:(checkC l).2=0){k:Nat}(h2:k+1<l.length):(atB l (k+1)).h=nextK (tipB l (k+1)) (atB l (k+1)).t (atB l (k+1)).h.nonce:=(push_ok (ch_push h (k:=k+1) (by omega) h2)).1
theorem ch_height(h:(checkC l).2=0): ∀{k:Nat},k<l.length→(atB l k).h.height=(k:Int)∧k<48
 |0,_=>by
  have e:=(ch_first h).2.1
  rw[e]
  exact⟨rfl,by decide⟩
 |k+1,h2=>by
  obtain⟨e,h3⟩:=ch_height h (k:=k) (by omega)
  have g:=congrArg Hd.height (ch_head h h2)
  have g2:(atB l (k+1)).h.height=IntKind.i64.wrap ((tipB l (k+1)).b.h.height+1):=g
  rw[ch_last h (by omega),e,IntKind.wrap_i64]at g2
  have h4:=(push_ok (ch_push h (k:=k+1) (by omega) h2)).2.1
  refine⟨?_,?_⟩<;>omega
theorem ch_len(h:(checkC l).2=0):l.length≤48:=by
 have h1:=check_some h
 have:=(ch_height h (k:=l.length- 1) (by omega)).2
 omega
theorem ch_level(h:(checkC l).2=0){k:Nat}(h2:k<l.length):0≤levelH (atB l k).h:=by
 cases k with
 |zero=>
  rw[(ch_first h).2.1]
  show 0≤levelH (headK _)
  rw[first_level (ch_first h).1]
  decide
 |succ k=>
  have g:=(push_ok (ch_push h (k:=k+1) (by omega) h2)).2.2.2.1
  unfold mayH at g
  exact of_decide_eq_true g
theorem leaves_okB(l:List BlkR):okTs (leavesB l)∧ ∀x∈leavesB l,x.n=1:=by
 refine⟨fun x hx=>?_,fun x hx=>?_⟩<;>
 · unfold leavesB at hx
   obtain⟨b,-,rfl⟩:=List.mem_map.1 hx
   first|exact leafH_ok b.h|rfl
theorem spend_lenC{p:List CoinR}{t:TxR}{q:List CoinR}{m:Int}(h:spendP p t=(q,m,0)):q.length≤48:=by
 unfold spendP at h
 split at h
 · split at h
   · cases h
   · split at h
     · cases h
     · split at h
       · cases h
       · split at h
         · cases h
         · rename_i c
           cases h
           omega
 · cases h
theorem run_lenC: ∀(l:List TxR)(p:List CoinR)(n:Int)(q:List CoinR)(m:Int),p.length≤48→runP p n l= .ok (q,m)→q.length≤48
 |[],p,n,q,m,hp,h=>by
  cases h
  exact hp
 |t::l,p,n,q,m,hp,h=>by
  rw[runP]at h
  rcases hs:spendP p t with ⟨q2,m2,e⟩
  rw[hs]at h
  cases e with
  |zero=>exact run_lenC l q2 _ q m (spend_lenC hs) h
  |succ e=>cases h
theorem apply_lenC {p:List CoinR} {l:List TxR} (h:(applyP p l).2=0):(applyP p l).1.length≤48:=by
 unfold applyP at h ⊢
 cases hm:mayP p with
 |false=>
  rw[hm,if_pos rfl]at h
  exact absurd h (show (1:Nat)≠0 by decide)
 | true =>
  rw[hm]at h
  simp only[Bool.true_eq_false,if_false]at h ⊢
  by_cases h4:4<l.length
  · rw[if_pos h4]at h
    exact absurd h (show (3:Nat)≠0 by decide)
  · rw[if_neg h4]at h ⊢
    cases hr:runP p 0 (if loneX l=true then l.tail else l)with
    |error e=>
     rw[hr]at h
     exact(mayP_iff.1 hm).1
    | ok x=>
     obtain⟨q,n⟩:=x
     have hq:=run_lenC _ p 0 q n (mayP_iff.1 hm).1 hr
     rw[hr]at h
     cases l with
     |nil=>exact hq
     | cons t r =>
      simp only at h ⊢
      split at h
      · rename_i c
        rw[if_pos c]
        exact hq
      · rename_i c
        rw[if_neg c]
        split at h
        · exact absurd h (show (1:Nat)≠0 by decide)
        · rename_i c2
          rw[if_neg c2]
          split at h
          · exact absurd h (show (10:Nat)≠0 by decide)
          · rename_i c3
            rw[if_neg c3]
            split at h
            · exact absurd h (show (8:Nat)≠0 by decide)
            · rename_i c4
              rw[if_neg c4]
              split at h
              · exact absurd h (show (11:Nat)≠0 by decide)
              · rename_i c5
                rw[if_neg c5]
                show (madeP q (newC (idX t) 0 t.outs)).length≤48
                omega
theorem ch_coins(h:(checkC l).2=0){k:Nat}(h2:k<l.length):(tipB l (k+1)).c.length≤48∧(tipB l (k+1)).p.length≤48:=by
 refine⟨?_,?_⟩
 · cases k with
   |zero=>
    rw[(ch_first h).2.2]
    exact Nat.zero_le _
   |succ k=>
    have e:=push_ok (ch_push h (k:=k+1) (by omega) h2)
    rw[e.2.2.2.2.2]
    exact apply_lenC e.2.2.2.2.1
 · rw[ch_peaks h h2]
   have hl:(leavesB l).length=l.length:=List.length_map _
   have e:=(peaks_ok (k+1) (leavesB l) (leaves_okB l).1 (by omega)).2
   have:=ch_len h
   omega
theorem find_at: ∀(l:List BlkR)(id:List Int)(k:Nat),k<l.length→(∀j,j<k→idH (atB l j).h≠id)→idH (atB l k).h=id→findB l id=(k:Int)
 |[],_,_,h,_,_=>absurd h (Nat.not_lt_zero _)
 |b::r,id,0,_,_,e=>if_pos e
 |b::r,id,k+1,h,H,e=>by
  have e2:=find_at r id k (by rw[List.length_cons]at h;omega) (fun j hj=>H (j+1) (by omega)) e
  unfold findB
  rw[if_neg (show¬idH b.h=id from H 0 (Nat.succ_pos _)),e2,if_neg (by omega)]
  omega
theorem find_none: ∀(l:List BlkR)(id:List Int),(∀j,j<l.length→idH (atB l j).h≠id)→findB l id= -1
 |[],_,_=>rfl
 |b::r,id,H=>by
  have e2:=find_none r id (fun j hj=>H (j+1) (by rw[List.length_cons];omega))
  unfold findB
  rw[if_neg (show¬idH b.h=id from H 0 (Nat.succ_pos _)),e2]
  rfl
end
open Go.RowKit
structure BlksIn(w:World)(A:Option Addr)(l:List BlkM):Prop where
  cells:CellsIn w w.heap.size A (l.map blkC).flatten
  each: ∀t∈l,BlkOk w t
def rsB(l:List BlkM):List BlkR:=l.map BlkM.r
theorem rsB_len(l:List BlkM):(rsB l).length=l.length:=List.length_map _
theorem rsB_at{l:List BlkM}{i:Nat}(h:i<l.length):atB (rsB l) i=(l.getD i noBlkM).r:=by
 unfold atB rsB
 rw[gD,List.getElem?_map,gE h,gD,gE h]
 rfl
theorem rsB_app(l q:List BlkM):rsB (l++q)=rsB l++rsB q:=List.map_append
theorem BlksIn.up{w w':World}{A:Option Addr}{l:List BlkM}(h:BlksIn w A l)(hb:Below w.heap.size w w'):BlksIn w' A l:=⟨h.cells.up hb,fun t ht=>(h.each t ht).up hb⟩
theorem BlksIn.get{w:World}{A:Option Addr}{l:List BlkM}(h:BlksIn w A l){i:Nat}(hi:i<l.length):BlkOk w (l.getD i noBlkM):=by
 rw[gD,gE hi]
 exact h.each _ (List.getElem_mem hi)
theorem rowsBk{w:World}{A:Option Addr}{l:List BlkM}(h:BlksIn w A l):isRows 137 (l.map blkC):=fun x hx=>by
 obtain⟨t,ht,rfl⟩:=List.mem_map.1 hx
 exact blkC_len (h.each t ht).h.len
theorem BlksIn.flat{w:World}{A:Option Addr}{l:List BlkM}(h:BlksIn w A l):(l.map blkC).flatten.length=l.length*137:=by
 have e:=(rowsBk h).flat_len
 rwa[lM]at e
theorem loads_blk{ad:Addr}{u:World}{b:BlkM}(k:lenH b.h)(hc: ∀(j:Nat)(v:Value),(blkC b)[j]?=some v→u.cell? (ad.add j)=some v):
  (loadVar 37 ad).run Tryz.prog u= .ok (blkV b) u∧
  (loadVar 34 ad).run Tryz.prog u= .ok (hdV b.h) u∧
  (loadVar 35 (ad.add 135)).run Tryz.prog u= .ok (.slice b.A1 b.n1 b.c1) u∧
  (loadVar 23 (ad.add 136)).run Tryz.prog u= .ok (.slice b.A2 b.n2 b.c2) u:=
 ⟨run_loadAgg aggBlk (blkC b) (blkC_len k) hc,(loads_hd k fun j v hv=>hc j v ((blk_cells k).1 j v hv)).1,run_load_one oneIdsK u (hc 135 _ (blk_cells k).2.1),run_load_one oneTxsK u (hc 136 _ (blk_cells k).2.2)⟩
theorem BlksIn.loads{w:World}{A:Option Addr}{l:List BlkM}(h:BlksIn w A l){k:Nat}(hk:k<l.length): ∃ad,A=some ad∧ad.block<w.heap.size∧ ∀u,EnvX w u []→
  (loadVar 37 (ad.add (k*137))).run Tryz.prog u= .ok (blkV (l.getD k noBlkM)) u∧
  (loadVar 34 (ad.add (k*137))).run Tryz.prog u= .ok (hdV (l.getD k noBlkM).h) u∧
  (loadVar 35 ((ad.add (k*137)).add 135)).run Tryz.prog u= .ok (.slice (l.getD k noBlkM).A1 (l.getD k noBlkM).n1 (l.getD k noBlkM).c1) u∧
  (loadVar 23 ((ad.add (k*137)).add 136)).run Tryz.prog u= .ok (.slice (l.getD k noBlkM).A2 (l.getD k noBlkM).n2 (l.getD k noBlkM).c2) u:=by
 obtain⟨ad,e,hb,hc⟩:=row_cells (d:=noBlkM) h.cells (rowsBk h) (by decide) hk
 refine⟨ad,e,hb,fun u hu=>?_⟩
 exact loads_blk (h.get hk).h.len fun j v hv=>by
  rw[←hc j v hv]
  exact(EnvX.bel hu).cell (by rw[block_of_add,block_of_add];exact hb)
structure RowM where
  l:List BlkM
  A:Option Addr
  n:Nat
  c:Nat
def RowM.r(m:RowM):List BlkR:=rsB m.l
def rowV(m:RowM):Value:= .slice m.A m.n m.c
structure RowOk(w:World)(m:RowM):Prop where
  l:m.l.length=m.n
  b:m.n≤m.c∧m.c≤maxLen
  m:BlksIn w m.A m.l
theorem RowOk.up{w w':World}{m:RowM}(h:RowOk w m)(hb:Below w.heap.size w w'):RowOk w' m:=⟨h.l,h.b,h.m.up hb⟩
def IsRow(r:List BlkR)(m:RowM)(w:World):Prop:=m.r=r∧RowOk w m
theorem IsRow.up{r:List BlkR}{m:RowM}{w w':World}(hb:Below w.heap.size w w')(h:IsRow r m w):IsRow r m w':=⟨h.1,h.2.up hb⟩
theorem RowM.r_len(m:RowM):m.r.length=m.l.length:=rsB_len m.l
theorem RowOk.n63{w:World}{m:RowM}(h:RowOk w m):m.n<9223372036854775808:=by
 have h1:=h.b
 unfold maxLen at h1
 omega
def midBlkR(b:BlkR):Prop:=b.l.length≤1000000∧b.t.length≤1000000∧ ∀x∈b.t,bigX x
theorem midBlk_iff(b:BlkM):midBlk b↔midBlkR b.r:=by
 unfold midBlk midTxs midBlkR
 show _↔b.l.length≤1000000∧(rsT b.t).length≤1000000∧ ∀x∈rsT b.t,bigX x
 unfold rsT
 rw[lM]
 exact⟨fun h=>⟨h.1,h.2.1,fun x hx=>by obtain⟨y,hy,rfl⟩:=List.mem_map.1 hx;exact h.2.2 y hy⟩,fun h=>⟨h.1,h.2.1,fun x hx=>h.2.2 _ (List.mem_map.2 ⟨x,hx,rfl⟩)⟩⟩
theorem noBlk_mid:midBlkR noBlk:=⟨Nat.zero_le _,Nat.zero_le _,fun x h=>by cases h⟩
def midRowR(r:List BlkR):Prop:=r.length≤100000∧ ∀b∈r,midBlkR b
theorem midRowR.take{r:List BlkR}(h:midRowR r)(k:Nat):midRowR (r.take k):=⟨by rw[List.length_take];have:=h.1;omega,fun b hb=>h.2 b (List.mem_of_mem_take hb)⟩
theorem midRowR.at{r:List BlkR}(h:midRowR r){k:Nat}(hk:k<r.length):midBlkR (atB r k):=by
 unfold atB
 rw[gD,gE hk]
 exact h.2 _ (List.getElem_mem hk)
theorem midTip_of{r:TipR}{t:TipM}{w:World}(h:IsTip r t w)(h1:midBlkR r.b)(h2:r.p.length≤1000)(h3:r.c.length≤1000):midTip t:=by
 obtain⟨rfl,-⟩:=h
 have hb:=(midBlk_iff t.b).2 h1
 exact⟨hb.1,h2,h3,hb.2⟩
theorem check_mid{l:List BlkR}(hl:midRowR l){t:TipM}{w:World}(h:IsTip (checkC l).1 t w):midTip t:=by
 by_cases h0:(checkC l).2=0
 · have h1:=check_some h0
   have e:=tip_whole (l:=l)
   obtain⟨k,hk⟩: ∃k,l.length=k+1:=⟨l.length- 1,by omega⟩
   have hlt:k<l.length:=by omega
   rw[hk]at e
   have hc:=ch_coins h0 hlt
   have hb:=ch_last h0 hlt
   rw[e]at hc hb
   exact midTip_of h (by rw[hb];exact hl.at hlt) (by omega) (by omega)
 · refine midTip_of h ?_ ?_ ?_
   · rw[check_tip h0];exact noBlk_mid
   · rw[check_tip h0];exact Nat.zero_le _
   · rw[check_tip h0];exact Nat.zero_le _
def i64V(x:Int):Value:= .int .i64 x
structure ChainC:Prop where
  check: ∀(m:RowM)(w:World),RowOk w m→midRowR m.r→Tables w→
    Calls Tryz.prog 13 #[rowV m] w fun e w'=>(∃t:TipM,e= .returned (.tuple #[tipV t, .int .i64 ((checkC m.r).2:Int)])∧IsTip (checkC m.r).1 t w')∧Below w.heap.size w w'
  new: ∀(bits:Nat)(w:World),bits<4294967296→Tables w→
    Calls Tryz.prog 17 #[.int .u32 (bits:Int)] w fun e w'=>(∃m:RowM,e= .returned (.tuple #[rowV m, .bool (newB bits).2])∧IsRow (newB bits).1 m w')∧Below w.heap.size w w'
  grow: ∀(m:RowM)(l:List TxM)(A:Option Addr)(n c:Nat)(nonce:Nat)(w:World),RowOk w m→midRowR m.r→l.length=n→n≤c→c≤maxLen→TxsIn w A l→midTxs l→nonce<18446744073709551616→Tables w→
    Calls Tryz.prog 15 #[rowV m, .slice A n c, .int .u64 (nonce:Int)] w fun e w'=>(∃q:RowM,e= .returned (.tuple #[rowV q, .int .i64 ((growC m.r (rsT l) nonce).2:Int)])∧IsRow (growC m.r (rsT l) nonce).1 q w')∧Below w.heap.size w w'
  find: ∀(m:RowM)(id:List Int)(w:World),RowOk w m→m.l.length≤100000→isId id→Tables w→
    Calls Tryz.prog 28 #[rowV m,idv id] w fun e w'=>e= .returned (.int .i64 (findB m.r id))∧Below w.heap.size w w'
  levels: ∀(m:RowM)(w:World),RowOk w m→m.l.length≤100000→Tables w→
    Calls Tryz.prog 22 #[rowV m] w fun e w'=>(∃v,e= .returned v∧w'.ownsRow w.heap.size 3 1 v m.n ((levelsB m.r).map i64V))∧Below w.heap.size w w'
  leaves: ∀(m:RowM)(w:World),RowOk w m→m.l.length≤100000→Tables w→
    Calls Tryz.prog 26 #[rowV m] w fun e w'=>(∃v,e= .returned v∧w'.ownsRow w.heap.size 61 37 v m.n ((leavesB m.r).map totC).flatten)∧Below w.heap.size w w'
  same: ∀(m q:RowM)(w:World),RowOk w m→midRowR m.r→RowOk w q→midRowR q.r→Tables w→
    Calls Tryz.prog 24 #[rowV m,rowV q] w fun e w'=>e= .returned (.bool (decide (m.r=q.r)))∧Below w.heap.size w w'
theorem row_turn{f:FuncId}{args:Array Value}{u w0:World}{M:Boxes}{r:List BlkR}{y:Value}(h:Calls Tryz.prog f args u fun e w'=>(∃m:RowM,e= .returned (.tuple #[rowV m,y])∧IsRow r m w')∧Below u.heap.size u w')(hu:EnvX w0 u M):
  Calls Tryz.prog f args u fun e w'=> ∃x M',e= .returned x∧EnvX w0 w' M'∧ ∃m N,x= .tuple #[.slice m.A m.n m.c,y]∧M'=N++M∧KeptB w0 N (IsRow r m)∧ ∃v,IsRow r m v:=
 any_turn (V:=fun m=> .tuple #[rowV m,y]) (Q:=IsRow r) (fun t w w' hb h=>h.up hb) h hu
theorem row_turn0{f:FuncId}{args:Array Value}{u w0:World}{r:List BlkR}{y:Value}(h:Calls Tryz.prog f args u fun e w'=>(∃m:RowM,e= .returned (.tuple #[rowV m,y])∧IsRow r m w')∧Below u.heap.size u w')(hu:EnvX w0 u []):
  Calls Tryz.prog f args u fun e w'=> ∃x M',e= .returned x∧EnvX w0 w' M'∧ ∃m N,x= .tuple #[.slice m.A m.n m.c,y]∧M'=N∧KeptB w0 N (IsRow r m)∧ ∃v,IsRow r m v:=
 (row_turn h hu).mono fun e w'⟨x,M',he,hE,t,N,hx,hM,hk,hv⟩=>⟨x,M',he,hE,t,N,hx,by rw[hM,List.append_nil],hk,hv⟩
open Go.ChangeShapes Go.WideShapes Go.ChangeAt Go.RowKit Go.Deep
theorem bulk_pos{H:Type}(d:DataW H):1≤Rows.uptoBulk d:=by
 cases d with
 |lit l=>cases l<;>simp[Rows.uptoBulk]
 |nil=>simp[Rows.uptoBulk]
 |ptr d=>simp[Rows.uptoBulk]
 |slice elems spare=>simp[Rows.uptoBulk]
 |agg parts=>simp[Rows.uptoBulk]
 |iface t d=>simp[Rows.uptoBulk]
 |map entries=>simp[Rows.uptoBulk]
 |held h=>simp[Rows.uptoBulk]
theorem bulk_part{H:Type}{d:DataW H}: ∀{l:List (DataW H)},d∈l→Rows.uptoBulk d≤Rows.uptoBulkAll l
 |x::r,h=>by
  show _≤Rows.uptoBulk x+Rows.uptoBulkAll r
  rcases List.mem_cons.1 h with rfl|h
  · omega
  · have:=bulk_part h
    omega
theorem bulk_len{H:Type}{K:Nat}: ∀(l:List (DataW H)),(∀d∈l,K≤Rows.uptoBulk d)→l.length*K≤Rows.uptoBulkAll l
 |[],_=>by rw[List.length_nil,Nat.zero_mul];exact Nat.zero_le _
 |x::r,h=>by
  have h1:=h x (List.mem_cons_self ..)
  have h2:=bulk_len r (fun d hd=>h d (mT hd))
  show (r.length+1)*K≤Rows.uptoBulk x+Rows.uptoBulkAll r
  rw[Nat.add_mul,Nat.one_mul]
  omega
theorem bulk_two{H:Type}(a b:DataW H):3≤Rows.uptoBulk (.agg [a,b]):=by
 have h1:=bulk_pos a
 have h2:=bulk_pos b
 show 3≤Rows.uptoBulk a+(Rows.uptoBulk b+0)+1
 omega
theorem open_elemsB {α:Type} {ok:α→Prop} {Q:α→Nat→Prop} {K:Nat} {C:α→List Value} {st e:TypeId} {z:Nat} {H:Type} {enc:TypeId × Value→H} {W:World} {fuel0:Nat} {cs0:List Value} {x0:DataW H × List MemPlace}
   (hs:Tryz.prog.underlying st=some (.slice e)) (hz:Tryz.prog.cellsOf e=z) (z0:0<z) (hlen: ∀t,ok t→(C t).length=z)
   (hQ: ∀t a b,Q t a→a≤b→Q t b) (hC: ∀(fuel:Nat)(cs:List Value)(x:DataW H × List MemPlace),DataW.trod enc Tryz.prog W 0 (fun _=>true) true fuel e cs=some x→(∃t,ok t∧cs=C t∧Q t (Rows.uptoBulk x.1))∧K≤Rows.uptoBulk x.1)
   (hf:DataW.trod enc Tryz.prog W 0 (fun _=>true) true fuel0 st cs0=some x0):
   ∃(a:Option Addr)(n c:Nat)(l:List α),cs0=[.slice a n c]∧l.length=n∧n≤c∧c≤maxLen∧(∀t∈l,ok t∧Q t (Rows.uptoBulk x0.1))∧CellsIn W W.heap.size a (l.map C).flatten∧n*K≤Rows.uptoBulk x0.1:=by
 rcases open_slice hs hf with ⟨hcs,_⟩|⟨a,len,cap,m,n,D,Pl,hcs,_,hl,hm,hmm,hx0,hx⟩
 · exact⟨none,0,0,[],hcs,rfl,Nat.le_refl _,Nat.zero_le _,(fun x h=>by cases h),(fun h=>absurd h (Nat.lt_irrefl 0)),by rw[Nat.zero_mul];exact Nat.zero_le _⟩
 · have hmc:m=cap:=by simpa using hmm
   subst hmc
   have hb0:Rows.uptoBulkAll ((List.range len).map D)≤Rows.uptoBulk x0.1:=by
    rw[hx0]
    show _≤Rows.uptoBulkAll _+Rows.uptoBulkAll _+1
    omega
   have hbk: ∀k,k<len→Rows.uptoBulk (D k)≤Rows.uptoBulk x0.1:=fun k hk=>Nat.le_trans (bulk_part (List.mem_map.2 ⟨k,List.mem_range.2 hk,rfl⟩)) hb0
   have hK:len*K≤Rows.uptoBulk x0.1:=by
    refine Nat.le_trans ?_ hb0
    have h:=bulk_len (K:=K) ((List.range len).map D) (fun d hd=>by
      obtain⟨k,hk,rfl⟩:=List.mem_map.1 hd
      obtain⟨cs',g1,g2⟩:=hx k (by have:=List.mem_range.1 hk;omega)
      exact(hC _ _ _ g2).2)
    rwa[lM,List.length_range]at h
   have hl': ∀k,k≤len→ ∃l:List α,l.length=k∧(∀t∈l,ok t∧Q t (Rows.uptoBulk x0.1))∧ ∀i,i<k→ ∀j,j<z→W.cell? ((a.add (i*z)).add j)=((l.map C).getD i [])[j]?:=by
    intro k
    induction k with
    |zero=>intro _;exact⟨[],rfl,(fun x h=>by cases h),(fun i hi=>absurd hi (by omega))⟩
    | succ k ih=>
      intro hk
      obtain⟨l,h1,h2,h3⟩:=ih (by omega)
      obtain⟨cs',g1,g2⟩:=hx k (by omega)
      rw[hz]at g1
      obtain⟨⟨t,ht,rfl,hq⟩,-⟩:=hC _ _ _ g2
      obtain⟨_,_,g4⟩:=World.cells?_some g1
      refine⟨l++[t],by rw[lA,h1];rfl,(fun y hy=>?_),(fun i hi j hj=>?_)⟩
      · rcases List.mem_append.1 hy with e|e
        · exact h2 y e
        · cases mS.1 e;exact⟨ht,hQ _ _ _ hq (hbk k (by omega))⟩
      · rw[List.map_append,gD]
        rcases Nat.lt_or_ge i k with h'|h'
        · rw[List.getElem?_append_left (by rw[lM];omega),←gD]
          exact h3 i h' j hj
        · obtain rfl:i=k:=by omega
          rw[List.getElem?_append_right (by rw[lM];omega),lM,h1,Nat.sub_self]
          exact g4 j hj
   obtain⟨l,h1,h2,h3⟩:=hl' len (Nat.le_refl _)
   have hR:isRows z (l.map C):=fun x hx=>by
    obtain⟨t,ht,rfl⟩:=List.mem_map.1 hx
    exact hlen t (h2 t ht).1
   refine⟨some a,len,m,l,hcs,h1,by omega,by omega,h2,?_,hK⟩
   intro hp
   have hfl:=hR.flat_len
   rw[lM,h1]at hfl
   have hpl:0<len:=by
    rcases Nat.eq_zero_or_pos len with h0|h0
    · rw[hfl,h0,Nat.zero_mul]at hp
      exact absurd hp (by omega)
    · exact h0
   have hlt:a.block<W.heap.size:=by
    have h0:=h3 0 hpl 0 z0
    rcases Nat.lt_or_ge a.block W.heap.size with hl'|hl'
    · exact hl'
    · skip
      have hn:((l.map C).getD 0 [])[0]?=none:=by
        rw[←h0,addr_add_add,Nat.zero_mul,Nat.add_zero]
        have hb0:(a.add 0).block=a.block:=block_of_add _ _
        simp[World.cell?,hb0,Array.getElem?_eq_none hl']
      have hg:((l.map C).getD 0 []).length=z:=by
        rw[gD,gE (by rw[lM];omega)]
        exact hR _ (List.getElem_mem _)
      rw[List.getElem?_eq_none_iff]at hn
      omega
   refine⟨a,rfl,hlt,fun j u hu=>?_⟩
   have hj:j<len*z:=by
    rcases Nat.lt_or_ge j (len*z)with h'|h'
    · exact h'
    · rw[gN (by rw[hfl];exact h')]at hu
      cases hu
   have hi:j/z<len:=Nat.div_lt_of_lt_mul (by rw[Nat.mul_comm];exact hj)
   have hm2:j % z<z:=Nat.mod_lt _ z0
   have hj2:(j/z)*z+j % z=j:=by rw[Nat.mul_comm];exact Nat.div_add_mod j z
   have hg:=hR.flat_get (j/z) (j % z) (by rw[lM];omega) hm2
   rw[hj2]at hg
   have hc:=h3 _ hi _ hm2
   rw[addr_add_add,hj2]at hc
   rw[hc,←hg,hu]
section
variable {H:Type}{enc:TypeId × Value→H}{W:World}{fuel:Nat}{cs:List Value}{x:DataW H × List MemPlace}
theorem id_bulk(h:DataW.trod enc Tryz.prog W 0 (fun _=>true) true fuel 26 cs=some x):(∃t:List Int,(t.length=32∧ ∀b∈t,0≤b∧b≤255)∧cs=t.map u8v∧True)∧2≤Rows.uptoBulk x.1:=by
 refine⟨?_,?_⟩
 · obtain⟨hs,k1,k2,e0⟩:=id_cells h
   exact⟨hs,⟨k1,k2⟩,e0,trivial⟩
 · obtain⟨ys,m,_,hx,hlen,hl,hall⟩:=DataW.trod_array underlying26 h
   rw[hx]
   have h1:=bulk_len (K:=1) (ys.map (·.1)) (fun d _=>bulk_pos d)
   show 2≤Rows.uptoBulkAll (ys.map (·.1))+1
   rw[lM,hl]at h1
   omega
theorem in_bulk(h:DataW.trod enc Tryz.prog W 0 (fun _=>true) true fuel 133 cs=some x):(∃t:InR,okIn t∧cs=inC t∧True)∧2≤Rows.uptoBulk x.1:=by
 refine⟨?_,?_⟩
 · obtain⟨t,h1,h2⟩:=in_cells h
   exact⟨t,h1,h2,trivial⟩
 · obtain⟨y0,y1,n,hx,hl,h0,h1⟩:=trod_struct2 underlying133 h
   rw[hx]
   have:=bulk_two y0.1 y1.1
   show 2≤Rows.uptoBulk (DataW.agg [y0.1,y1.1])
   omega
theorem out_bulk(h:DataW.trod enc Tryz.prog W 0 (fun _=>true) true fuel 135 cs=some x):(∃t:OutR,okOut t∧cs=outC t∧True)∧2≤Rows.uptoBulk x.1:=by
 refine⟨?_,?_⟩
 · obtain⟨t,h1,h2⟩:=out_cells h
   exact⟨t,h1,h2,trivial⟩
 · obtain⟨y0,y1,n,hx,hl,h0,h1⟩:=trod_struct2 underlying135 h
   rw[hx]
   have:=bulk_two y0.1 y1.1
   show 2≤Rows.uptoBulk (DataW.agg [y0.1,y1.1])
   omega
def QTx(t:TxM)(B:Nat):Prop:=t.n1*2≤B∧t.n2*2≤B
def QBlk(b:BlkM)(B:Nat):Prop:=b.n1*2≤B∧b.n2*2≤B∧ ∀t∈b.t,QTx t B
theorem QTx.le{t:TxM}{a b:Nat}(h:QTx t a)(hab:a≤b):QTx t b:=⟨Nat.le_trans h.1 hab,Nat.le_trans h.2 hab⟩
theorem QBlk.le{t:BlkM}{a b:Nat}(h:QBlk t a)(hab:a≤b):QBlk t b:=⟨Nat.le_trans h.1 hab,Nat.le_trans h.2.1 hab,fun y hy=>(h.2.2 y hy).le hab⟩
theorem tx_bulk(h:DataW.trod enc Tryz.prog W 0 (fun _=>true) true fuel 77 cs=some x):(∃t:TxM,TxOk W t∧cs=txC t∧QTx t (Rows.uptoBulk x.1))∧2≤Rows.uptoBulk x.1:=by
 obtain⟨y0,y1,n,hx,hl,h0,h1⟩:=trod_struct2 underlying77 h
 rw[ccellsTx]at hl
 obtain⟨a1,n1,c1,l1,p1,q1,r1,s1,o1,m1,b1⟩:=open_elemsB (ok:=okIn) (Q:=fun _ _=>True) (C:=inC) underlying74 ccellsIn (by decide) (fun t ht=>inC_len ht.len) (fun _ _ _ _ _=>trivial) (fun _ _ _ h=>in_bulk h) h0
 obtain⟨a2,n2,c2,l2,p2,q2,r2,s2,o2,m2,b2⟩:=open_elemsB (ok:=okOut) (Q:=fun _ _=>True) (C:=outC) underlying75 ccellsOut (by decide) (fun t ht=>rfl) (fun _ _ _ _ _=>trivial) (fun _ _ _ h=>out_bulk h) h1
 have hxb:Rows.uptoBulk x.1=Rows.uptoBulk y0.1+(Rows.uptoBulk y1.1+0)+1:=by rw[hx];rfl
 have hp:=bulk_pos y0.1
 refine⟨⟨⟨⟨l1,l2⟩,a1,n1,c1,a2,n2,c2⟩,⟨q1,⟨r1,s1⟩,fun t ht=>(o1 t ht).1,m1,q2,⟨r2,s2⟩,fun t ht=>(o2 t ht).1,m2⟩,?_,by show n1*2≤_;omega,by show n2*2≤_;omega⟩,by omega⟩
 have p1':cs.take 1=[.slice a1 n1 c1]:=by
  have h:=p1
  rw[show Tryz.prog.cellsOf 74=1 from ccellsIns]at h
  exact h
 have p2':(cs.drop 1).take 1=[.slice a2 n2 c2]:=by
  have h:=p2
  rw[show Tryz.prog.cellsOf 75=1 from ccellsOuts]at h
  exact h
 show cs=[.slice a1 n1 c1]++[.slice a2 n2 c2]
 rw[←p1',←p2',List.take_of_length_le (l:=cs.drop 1) (by rw[List.length_drop];omega),List.take_append_drop]
theorem hd_bulk(h:DataW.trod enc Tryz.prog W 0 (fun _=>true) true fuel 34 cs=some x):9≤Rows.uptoBulk x.1:=by
 obtain⟨xs,k,hk,hxy,_,hxl,hf⟩:=DataW.trod_struct underlying34 h
 rw[hxy]
 have h1:=bulk_len (K:=1) (xs.map (·.1)) (fun d _=>bulk_pos d)
 show 9≤Rows.uptoBulkAll (xs.map (·.1))+1
 rw[lM,hxl]at h1
 have h2:(8:Nat)*1≤Rows.uptoBulkAll (xs.map (·.1)):=h1
 omega
theorem blk_bulk(h:DataW.trod enc Tryz.prog W 0 (fun _=>true) true fuel 37 cs=some x):(∃t:BlkM,BlkOk W t∧cs=blkC t∧QBlk t (Rows.uptoBulk x.1))∧11≤Rows.uptoBulk x.1:=by
 obtain⟨y0,y1,y2,n,hx,hl,h0,h1,h2⟩:=trod_struct3 underlying37 h
 rw[bcellsBlk]at hl
 obtain⟨hd,hok,e0⟩:=hd_cells h0
 have hh:=hd_bulk h0
 obtain⟨a1,n1,c1,l1,p1,q1,r1,s1,o1,m1,b1⟩:=open_elemsB (ok:=fun t:List Int=>t.length=32∧ ∀b∈t,0≤b∧b≤255) (Q:=fun _ _=>True) (C:=fun t:List Int=>t.map u8v) underlying35 cellsOfId (by decide) (fun t ht=>by rw[lM];exact ht.1) (fun _ _ _ _ _=>trivial) (fun _ _ _ h=>id_bulk h) h1
 obtain⟨a2,n2,c2,l2,p2,q2,r2,s2,o2,m2,b2⟩:=open_elemsB (ok:=TxOk W) (Q:=QTx) (C:=txC) underlying23 ccellsTx (by decide) (fun t ht=>rfl) (fun _ _ _ h k=>h.le k) (fun _ _ _ h=>tx_bulk h) h2
 have hxb:Rows.uptoBulk x.1=Rows.uptoBulk y0.1+(Rows.uptoBulk y1.1+(Rows.uptoBulk y2.1+0))+1:=by rw[hx];rfl
 have hp1:=bulk_pos y1.1
 refine⟨⟨⟨hd,l1,a1,n1,c1,l2,a2,n2,c2⟩,⟨hok,q1,⟨r1,s1⟩,fun t ht=>(o1 t ht).1,?_,q2,⟨r2,s2⟩,⟨m2,fun t ht=>(o2 t ht).1⟩⟩,?_,by show n1*2≤_;omega,by show n2*2≤_;omega,fun t ht=>(o2 t ht).2.le (by omega)⟩,by omega⟩
 · intro hp
   have e:(l1.map fun t:List Int=>t.map u8v).flatten=l1.flatten.map u8v:=by rw[List.map_flatten]
   rw[e]at m1
   exact m1 (by rw[lM];exact hp)
 have e0':(cs.drop 0).take 135=hdC hd:=by
  have h:=e0
  rw[show Tryz.prog.cellsOf 34=135 from hcellsHd]at h
  exact h
 have p1':(cs.drop 135).take 1=[.slice a1 n1 c1]:=by
  have h:=p1
  rw[show Tryz.prog.cellsOf 35=1 from bcellsIds]at h
  exact h
 have p2':(cs.drop (135+1)).take 1=[.slice a2 n2 c2]:=by
  have h:=p2
  rw[show Tryz.prog.cellsOf 23=1 from bcellsTxs]at h
  exact h
 exact cut3 (j:=0) e0' p1' p2' hl
end
section
variable {H:Type}{enc:TypeId × Value→H}{W:World}{base:Nat}{v:Value}{d:DataW H}{p:List MemPlace}
theorem QBlk.mid{b:BlkM}{w:World}(h:BlkOk w b){B:Nat}(q:QBlk b B)(hB:B≤1048576):midBlk b:=by
 refine⟨by have:=h.l1;have:=q.1;omega,by have:=h.l2;have:=q.2.1;omega,fun t ht=>?_⟩
 have h2:=q.2.2 t ht
 have h3:=h.m2.each t ht
 exact⟨by have:=h3.l1;have:=h2.1;omega,by have:=h3.l2;have:=h2.2;omega⟩
theorem open_blksB(hok:Value.okWide Tryz.prog W .any base 22 v)(h:DataW.Trod enc Tryz.prog W 0 (fun _=>true) true 22 v d p)(hB:Rows.uptoBulk d≤1048576): ∃m:RowM,v=rowV m∧RowOk W m∧midRowR m.r:=by
 obtain⟨a0,len,cap,rfl⟩:=okWide_slice underlying22 hok
 obtain⟨fuel,hf⟩:=h
 obtain⟨a,n,c,l,h1,h2,h3,h4,h5,h6,h7⟩:=open_elemsB (ok:=BlkOk W) (Q:=QBlk) (C:=blkC) underlying22 bcellsBlk (by decide) (fun t ht=>blkC_len ht.h.len) (fun _ _ _ h k=>h.le k) (fun _ _ _ h=>blk_bulk h) hf
 have h1':Value.slice a0 len cap=Value.slice a n c:=by simpa [Value.cells] using h1
 refine⟨⟨l,a,n,c⟩,h1',⟨h2,⟨h3,h4⟩,⟨h6,fun t ht=>(h5 t ht).1⟩⟩,?_,fun b hb=>?_⟩
 · show (rsB l).length≤100000
   rw[rsB_len]
   have hb:n*11≤Rows.uptoBulk d:=h7
   omega
 · obtain⟨t,ht,rfl⟩:=List.mem_map.1 hb
   exact(midBlk_iff t).1 ((h5 t ht).2.mid (h5 t ht).1 hB)
end
theorem addr0(a:Addr):a.add 0=a:=by unfold Addr.add;rfl
theorem BlksIn.cellsAt{w:World}{A:Option Addr}{l:List BlkM}(h:BlksIn w A l){k:Nat}(hk:k<l.length): ∃ad,A=some ad∧ ∀u,EnvX w u []→ ∀(j:Nat)(v:Value),(blkC (l.getD k noBlkM))[j]?=some v→u.cell? ((ad.add (k*137)).add j)=some v:=by
 obtain⟨ad,e,hb,hc⟩:=row_cells (d:=noBlkM) h.cells (rowsBk h) (by decide) hk
 refine⟨ad,e,fun u hu j v hv=>?_⟩
 rw[←hc j v hv]
 exact(EnvX.bel hu).cell (by rw[block_of_add,block_of_add];exact hb)
structure LoadsB(u:World)(a:Addr)(b:BlkM):Prop where
  blk:(loadVar 37 a).run Tryz.prog u= .ok (blkV b) u
  hd:(loadVar 34 (a.add 0)).run Tryz.prog u= .ok (hdV b.h) u
  prev:(loadVar 26 ((a.add 0).add 1)).run Tryz.prog u= .ok (idv b.h.prev) u
  bits:(loadVar 27 ((a.add 0).add 133)).run Tryz.prog u= .ok (.int .u32 (b.h.bits:Int)) u
  ids:(loadVar 35 (a.add 135)).run Tryz.prog u= .ok (.slice b.A1 b.n1 b.c1) u
  txs:(loadVar 23 (a.add 136)).run Tryz.prog u= .ok (.slice b.A2 b.n2 b.c2) u
theorem loadsB_of{u:World}{a:Addr}{b:BlkM}(k:lenH b.h)(hc: ∀(j:Nat)(v:Value),(blkC b)[j]?=some v→u.cell? (a.add j)=some v):LoadsB u a b:=by
 have l:=loads_blk k hc
 have g:=loads_hd k (fun j v hv=>hc j v ((blk_cells k).1 j v hv))
 exact⟨l.1,by rw[addr0];exact l.2.1,by rw[addr0];exact g.2.2.1,by rw[addr0];exact g.2.2.2.2.2.2.2.1,l.2.2.1,l.2.2.2⟩
theorem RowOk.loads{w:World}{m:RowM}(h:RowOk w m){k:Nat}(hk:k<m.l.length): ∃ad,m.A=some ad∧ ∀u,EnvX w u []→LoadsB u (ad.add (k*137)) (m.l.getD k noBlkM):=by
 obtain⟨ad,e,hc⟩:=h.m.cellsAt hk
 exact⟨ad,e,fun u hu=>loadsB_of (h.m.get hk).h.len (hc u hu)⟩
theorem row_loads{w0:World}{N:Boxes}{r:List BlkR}{m:RowM}(hk:KeptB w0 N (IsRow r m))(hv: ∃v,IsRow r m v){k:Nat}(hl:k<m.l.length): ∃ad,m.A=some ad∧ ∀u M,EnvX w0 u M→(∀y∈N,y∈M)→LoadsB u (ad.add (k*137)) (m.l.getD k noBlkM):=by
 obtain⟨v,hv⟩:=hv
 obtain⟨ad,e,-⟩:=hv.2.loads hl
 refine⟨ad,e,fun u M hu hM=>?_⟩
 obtain⟨ad2,e2,h⟩:=(hk u M hu hM).2.loads hl
 have e3:ad2=ad:=Option.some.inj (e2.symm.trans e)
 rw[←e3]
 exact h u (EnvX.start u)
theorem RowM.at_r{m:RowM}{k:Nat}(hk:k<m.l.length):(m.l.getD k noBlkM).r=atB m.r k:=(rsB_at hk).symm
theorem RowM.at_h{m:RowM}{k:Nat}(hk:k<m.l.length):(m.l.getD k noBlkM).h=(atB m.r k).h:=congrArg BlkR.h (RowM.at_r hk)
theorem RowOk.loadsAll{w:World}{m:RowM}(h:RowOk w m)(h0:0<m.l.length): ∃ad,m.A=some ad∧ ∀k,k<m.l.length→ ∀u,EnvX w u []→LoadsB u (ad.add (k*137)) (m.l.getD k noBlkM):=by
 obtain⟨ad,e,-⟩:=h.loads h0
 refine⟨ad,e,fun k hk u hu=>?_⟩
 obtain⟨ad2,e2,hl⟩:=h.loads hk
 have e3:ad2=ad:=Option.some.inj (e2.symm.trans e)
 rw[←e3]
 exact hl u hu
def chainE:List BlkR:=[tipE.b]
def chainE2:List BlkR:=[tipE.b,blkE]
theorem exC_new:newB 545259519=(chainE,true):=by unfold newB;rw[if_pos exE_isC];rfl
theorem exC_check:checkC chainE=(tipE,0):=(check_single (tipK 545259519).b).trans (start_first exE_isC)
theorem exC_grow:growC chainE [] 0=(chainE2,0):=by
 unfold growC
 rw[exC_check,if_neg (fun k=>k rfl),exE_mine,if_neg (fun k=>k rfl)]
 rfl
theorem exC_check2:checkC chainE2=(tipE2,0):=by
 rw[show chainE2=chainE++[blkE]from rfl,check_snoc (fun h=>by cases h),exC_check]
 unfold stepC
 rw[if_pos rfl,exE_push,if_pos rfl]
theorem exC_level:0≤levelH blkE.h:=by
 have h:=(mine_ok exE_mine).2.2.2.2.1
 unfold mayH at h
 exact of_decide_eq_true h
theorem exC_ids:(!eqL (idH blkE.h) z32&& !eqL (idH tipE.b.h) (idH blkE.h))=true:=by decide+kernel
theorem exC_find:findB chainE2 (idH blkE.h)=1:=by
 have h:=exC_ids
 rw[Bool.and_eq_true]at h
 have hn:idH tipE.b.h≠idH blkE.h:=fun e=>by
  have h2:=h.2
  rw[e]at h2
  simp[eqL]at h2
 show (if idH tipE.b.h=idH blkE.h then (0:Int)else _)=1
 rw[if_neg hn,show findB [blkE] (idH blkE.h)=0 from if_pos rfl]
 rfl
def plC(h:Hd):List Value:=[.int .i64 h.height]++((arrB 32 h.prev).toList++[.int .u32 h.bits])
def plA(h:Hd):Array Value:=(plC h).toArray
def plV(h:Hd):Value:= .agg (plA h)
def eqPl(a b:Hd):Bool:=decide (a.height=b.height∧a.prev=b.prev∧a.bits=b.bits)
theorem plC_len{h:Hd}(k:lenH h):(plC h).length=34:=by
 unfold plC
 simp only[lA,idA_list k.1,List.length_cons,List.length_nil]
theorem plA_size{h:Hd}(k:lenH h):(plA h).size=34:=by unfold plA;rw[List.size_toArray,plC_len k]
theorem plC_one(h:Hd): ∀u∈plC h,u.oneCell'=true:=by
 intro u hu
 unfold plC at hu
 rw[List.mem_append,List.mem_append]at hu
 rcases hu with h|h|h
 · cases mS.1 h;rfl
 · exact(Array.all_eq_true_iff_forall_mem.1 (arrB_one _ _)) u (Array.mem_toList_iff.1 h)
 · cases mS.1 h;rfl
theorem plA_one(h:Hd):(plA h).all (·.oneCell')=true:=by
 rw[Array.all_eq_true]
 intro i hi
 exact plC_one h _ (show (plA h)[i]∈(plA h).toList from Array.mem_toList_iff.2 (Array.getElem_mem hi))
theorem aggPl:AggT 195 34:=⟨fun w=>by simp[isAgg,run_underlying underlying195],by kernel_rfl⟩
theorem infoPl(cs:Array Value)(h:cs.size=34):(Tryz.prog.info? 195).map (·.size)=some cs.size:=by rw[h];exact aggPl.size
theorem plC_prev{h:Hd}(k:lenH h):((plA h).toList.drop 1).take 32=(arrB 32 h.prev).toList:=by
 unfold plA plC
 exact cells_mid rfl (idA_list k.1)
theorem plC_bits{h:Hd}(k:lenH h):(plA h)[33]?=some (.int .u32 h.bits):=by
 unfold plA plC
 rw[←aA]
 exact cell_mid (by simp only[lA,idA_list k.1,List.length_cons,List.length_nil])
theorem fieldsPl:(Tryz.prog.fieldsOf 195).toList.map (fun f=>(f.name== "_",f.type,f.offset))=[(false,3,0),(false,26,1),(false,27,33)]:=by kernel_rfl
theorem run_equal_pl(a b:Hd)(ha:okHd a)(hb:okHd b)(w:World):(Op.equal 195 (plV a) (plV b)).run Tryz.prog w= .ok (eqPl a b) w:=by
 unfold Op.equal plV
 have h:=run_equalIn_struct (P:=Tryz.prog) w 9999 195 (plA a) (plA b) (by kernel_rfl) (by kernel_rfl)
 refine Eq.trans h ?_
 have hf:=fieldsPl
 generalize (Tryz.prog.fieldsOf 195).toList=fs at hf ⊢
 have hl:fs.length=3:=by simpa using congrArg List.length hf
 obtain⟨f0,f1,f2,rfl⟩: ∃f0 f1 f2,fs=[f0,f1,f2]:=by
  match fs,hl with
  |[a,b,c],_=>exact⟨a,b,c,rfl⟩
 simp only[List.map_cons,List.map_nil,List.cons.injEq,Prod.mk.injEq,beq_eq_false_iff_ne,and_true]at hf
 obtain⟨⟨n0,t0,o0⟩,⟨n1,t1,o1⟩,n2,t2,o2⟩:=hf
 have la:=ha.len
 have lb:=hb.len
 have p0: ∀t:Hd,(part 3 (plA t) 0).run Tryz.prog w= .ok (.int .i64 t.height) w:=fun t=>run_part_plain (P:=Tryz.prog) w (by kernel_rfl) rfl
 have p1: ∀t:Hd,lenH t→(part 26 (plA t) 1).run Tryz.prog w= .ok (.agg (arrB 32 t.prev)) w:=fun t kt=>run_part_agg aggIdT (by have:=ext_list (plC_prev kt);rwa[Array.toArray_toList]at this) w
 have p2: ∀t:Hd,lenH t→(part 27 (plA t) 33).run Tryz.prog w= .ok (.int .u32 t.bits) w:=fun t kt=>run_part_plain (P:=Tryz.prog) w (by kernel_rfl) (plC_bits kt)
 have e0:=run_equalIn_int (P:=Tryz.prog) w 9998 3 .i64 .i64 a.height b.height underlying3
 have e1:=run_equalIn_id 9997 a.prev b.prev la.1 lb.1 w
 have e2:=run_equalIn_int (P:=Tryz.prog) w 9998 27 .u32 .u32 a.bits b.bits underlying27
 have hd:eqPl a b=((a.height==b.height) && (eqL a.prev b.prev&& ((a.bits:Int)==(b.bits:Int)))):=by
  unfold eqPl eqL
  rw[Bool.eq_iff_iff]
  simp only[decide_eq_true_eq,Bool.and_eq_true,beq_iff_eq,Int.natCast_inj]
 rw[hd]
 rw[eqFields_step (a:= .int .i64 a.height) (b:= .int .i64 b.height) n0 (by rw[t0,o0];exact p0 a) (by rw[t0,o0];exact p0 b) (by rw[t0];exact e0)]
 cases hc0:(a.height==b.height)with
 |false=>rfl
 | true=>
  rw[if_pos rfl,eqFields_step (a:= .agg (arrB 32 a.prev)) (b:= .agg (arrB 32 b.prev)) n1 (by rw[t1,o1];exact p1 a la) (by rw[t1,o1];exact p1 b lb) (by rw[t1];exact e1)]
  cases hc1:eqL a.prev b.prev with
  |false=>rfl
  |true=>
   rw[if_pos rfl,eqFields_step (a:= .int .u32 a.bits) (b:= .int .u32 b.bits) n2 (by rw[t2,o2];exact p2 a la) (by rw[t2,o2];exact p2 b lb) (by rw[t2];exact e2)]
   cases hc2:((a.bits:Int)==(b.bits:Int))with
   |false=>rfl
   |true=>rfl
theorem guardPl:Tryz.prog.eqGuardType Tryz.prog.depth 195=false:=by kernel_rfl
def roC(h:Hd):List Value:=(arrB 32 h.txs).toList++((arrB 32 h.past).toList++(wcs h.work).toList)
def roA(h:Hd):Array Value:=(roC h).toArray
def roV(h:Hd):Value:= .agg (roA h)
def eqRo(a b:Hd):Bool:=decide (a.txs=b.txs∧a.past=b.past∧a.work=b.work)
theorem roC_len{h:Hd}(k:lenH h):(roC h).length=68:=by
 unfold roC
 simp only[lA,idA_list k.2.2.1,idA_list k.2.2.2,wcs_list]
theorem roA_size{h:Hd}(k:lenH h):(roA h).size=68:=by unfold roA;rw[List.size_toArray,roC_len k]
theorem roC_one(h:Hd): ∀u∈roC h,u.oneCell'=true:=by
 intro u hu
 unfold roC at hu
 rw[List.mem_append,List.mem_append]at hu
 rcases hu with h|h|h
 · exact(Array.all_eq_true_iff_forall_mem.1 (arrB_one _ _)) u (Array.mem_toList_iff.1 h)
 · exact(Array.all_eq_true_iff_forall_mem.1 (arrB_one _ _)) u (Array.mem_toList_iff.1 h)
 · exact(Array.all_eq_true_iff_forall_mem.1 (wc_one _)) u (Array.mem_toList_iff.1 h)
theorem roA_one(h:Hd):(roA h).all (·.oneCell')=true:=by
 rw[Array.all_eq_true]
 intro i hi
 exact roC_one h _ (show (roA h)[i]∈(roA h).toList from Array.mem_toList_iff.2 (Array.getElem_mem hi))
theorem aggRo:AggT 198 68:=⟨fun w=>by simp[isAgg,run_underlying underlying198],by kernel_rfl⟩
theorem infoRo(cs:Array Value)(h:cs.size=68):(Tryz.prog.info? 198).map (·.size)=some cs.size:=by rw[h];exact aggRo.size
theorem roC_txs{h:Hd}(k:lenH h):((roA h).toList.drop 0).take 32=(arrB 32 h.txs).toList:=by
 unfold roA roC
 rw[List.drop_zero]
 exact List.take_left' (idA_list k.2.2.1)
theorem roC_past{h:Hd}(k:lenH h):((roA h).toList.drop 32).take 32=(arrB 32 h.past).toList:=by
 unfold roA roC
 exact cells_mid (idA_list k.2.2.1) (idA_list k.2.2.2)
theorem roC_work{h:Hd}(k:lenH h):((roA h).toList.drop 64).take 4=(wcs h.work).toList:=by
 unfold roA roC
 rw[←aA,←List.append_nil (wcs h.work).toList]
 exact cells_mid (by simp only[lA,idA_list k.2.2.1,idA_list k.2.2.2]) (wcs_list _)
theorem fieldsRo:(Tryz.prog.fieldsOf 198).toList.map (fun f=>(f.name== "_",f.type,f.offset))=[(false,26,0),(false,26,32),(false,32,64)]:=by kernel_rfl
theorem run_equal_ro(a b:Hd)(ha:okHd a)(hb:okHd b)(w:World):(Op.equal 198 (roV a) (roV b)).run Tryz.prog w= .ok (eqRo a b) w:=by
 unfold Op.equal roV
 have h:=run_equalIn_struct (P:=Tryz.prog) w 9999 198 (roA a) (roA b) (by kernel_rfl) (by kernel_rfl)
 refine Eq.trans h ?_
 have hf:=fieldsRo
 generalize (Tryz.prog.fieldsOf 198).toList=fs at hf ⊢
 have hl:fs.length=3:=by simpa using congrArg List.length hf
 obtain⟨f0,f1,f2,rfl⟩: ∃f0 f1 f2,fs=[f0,f1,f2]:=by
  match fs,hl with
  |[a,b,c],_=>exact⟨a,b,c,rfl⟩
 simp only[List.map_cons,List.map_nil,List.cons.injEq,Prod.mk.injEq,beq_eq_false_iff_ne,and_true]at hf
 obtain⟨⟨n0,t0,o0⟩,⟨n1,t1,o1⟩,n2,t2,o2⟩:=hf
 have la:=ha.len
 have lb:=hb.len
 have p0: ∀t:Hd,lenH t→(part 26 (roA t) 0).run Tryz.prog w= .ok (.agg (arrB 32 t.txs)) w:=fun t kt=>run_part_agg aggIdT (by have:=ext_list (roC_txs kt);rwa[Array.toArray_toList]at this) w
 have p1: ∀t:Hd,lenH t→(part 26 (roA t) 32).run Tryz.prog w= .ok (.agg (arrB 32 t.past)) w:=fun t kt=>run_part_agg aggIdT (by have:=ext_list (roC_past kt);rwa[Array.toArray_toList]at this) w
 have p2: ∀t:Hd,lenH t→(part 32 (roA t) 64).run Tryz.prog w= .ok (.agg (wcs t.work)) w:=fun t kt=>run_part_agg aggWd (by have:=ext_list (roC_work kt);rwa[Array.toArray_toList]at this) w
 have e0:=run_equalIn_id 9997 a.txs b.txs la.2.2.1 lb.2.2.1 w
 have e1:=run_equalIn_id 9997 a.past b.past la.2.2.2 lb.2.2.2 w
 have e2:=run_equalIn_wide 9997 a.work b.work ha.2.2.2.2.2.1 hb.2.2.2.2.2.1 w
 have hd:eqRo a b=(eqL a.txs b.txs&& (eqL a.past b.past&& eqN a.work b.work)):=by
  unfold eqRo eqL eqN
  rw[Bool.eq_iff_iff]
  simp only[decide_eq_true_eq,Bool.and_eq_true]
 rw[hd]
 rw[eqFields_step (a:= .agg (arrB 32 a.txs)) (b:= .agg (arrB 32 b.txs)) n0 (by rw[t0,o0];exact p0 a la) (by rw[t0,o0];exact p0 b lb) (by rw[t0];exact e0)]
 cases hc0:eqL a.txs b.txs with
 |false=>rfl
 | true=>
  rw[if_pos rfl,eqFields_step (a:= .agg (arrB 32 a.past)) (b:= .agg (arrB 32 b.past)) n1 (by rw[t1,o1];exact p1 a la) (by rw[t1,o1];exact p1 b lb) (by rw[t1];exact e1)]
  cases hc1:eqL a.past b.past with
  |false=>rfl
  |true=>
   rw[if_pos rfl,eqFields_step (a:= .agg (wcs a.work)) (b:= .agg (wcs b.work)) n2 (by rw[t2,o2];exact p2 a la) (by rw[t2,o2];exact p2 b lb) (by rw[t2];exact e2)]
   cases hc2:eqN a.work b.work with
   |false=>rfl
   |true=>rfl
theorem guardRo:Tryz.prog.eqGuardType Tryz.prog.depth 198=false:=by kernel_rfl
section
variable {a:Act}{dst:Option Tmp}{x y:Operand}{ty:TypeId}{pos:String}{after:Array Edge}{gd:Option (Nat × Bool)}
theorem eqlPl_op{s t:Hd}{b:Bool}(hs:okHd s)(ht:okHd t)(hb:eqPl s t=b)(u:World)(hx:a.eval x=plV s)(hy:a.eval y=plV t):
  (execOp a.eval ⟨dst, .binOp .eql 195 x y 195,ty,pos,after,gd⟩).run Tryz.prog u= .ok (.value (.bool b)) u:=by
 have h0:=run_equal_pl s t hs ht u
 have h:(binOp .eql 195 (plV s) (plV t)).run Tryz.prog u= .ok (.bool (eqPl s t)) u:=by
  unfold plV at *
  simp only[binOp]
  simp[h0]
 have hg:=run_eqGuard_agg (P:=Tryz.prog) u .eql 195 x y (plA s) (plA t) guardPl
 rw[←hb]
 unfold plV at *
 unfold execOp
 simp only[hx,hy,Sem.run_bind,hg,Result.andThen_ok,h,Sem.run_pure]
theorem eqlRo_op{s t:Hd}{b:Bool}(hs:okHd s)(ht:okHd t)(hb:eqRo s t=b)(u:World)(hx:a.eval x=roV s)(hy:a.eval y=roV t):
  (execOp a.eval ⟨dst, .binOp .eql 198 x y 198,ty,pos,after,gd⟩).run Tryz.prog u= .ok (.value (.bool b)) u:=by
 have h0:=run_equal_ro s t hs ht u
 have h:(binOp .eql 198 (roV s) (roV t)).run Tryz.prog u= .ok (.bool (eqRo s t)) u:=by
  unfold roV at *
  simp only[binOp]
  simp[h0]
 have hg:=run_eqGuard_agg (P:=Tryz.prog) u .eql 198 x y (roA s) (roA t) guardRo
 rw[←hb]
 unfold roV at *
 unfold execOp
 simp only[hx,hy,Sem.run_bind,hg,Result.andThen_ok,h,Sem.run_pure]
theorem fieldTr_op{k off:Nat}(hk:([(0,0),(1,137)]:List (Nat × Nat)).lookup k=some off){ad:Addr}(u:World)(hx:a.eval x= .pointer (some ad)):
  (execOp a.eval ⟨dst, .fieldAddr 112 x k,ty,pos,after,gd⟩).run Tryz.prog u= .ok (.value (.pointer (some (ad.add off)))) u:=by
 unfold execOp
 simp only[hx]
 rcases k with _|_|k
 all_goals first|(cases hk;go_simp)|cases hk
instance:FldT Tryz.prog 112 [(0,0),(1,137)]:=⟨fun h u k=>fieldTr_op h u k⟩
end
theorem built_pl(h:Hd)(k:lenH h):Tryz.prog.built 195 [(0, .int .i64 h.height),(1,idv h.prev),(2, .int .u32 h.bits)]=some (plA h):=by
 have z1:(arrB 32 h.prev).size=32:=arrB_size _ _ (by rw[k.1];omega)
 have e:cellsOfP [(0, .int .i64 h.height),(1,idv h.prev),(2, .int .u32 h.bits)]=plC h:=by simp[cellsOfP,plC,idv,Value.cells]
 have:=built_struct (t:=195) (n:=34) underlying195 (by kernel_rfl) (places:=[(0,1),(1,32),(33,1)]) (by kernel_rfl) (ps:=[(0, .int .i64 h.height),(1,idv h.prev),(2, .int .u32 h.bits)]) (by
  refine⟨?_,?_,?_,trivial⟩
  · rfl
  · show some (1,32)=some (0+1,(arrB 32 h.prev).size)
    rw[z1]
  · show some (33,1)=some (0+1+(arrB 32 h.prev).size,1)
    rw[z1]) (by rw[e,plC_len k])
 rw[this,e]
 rfl
theorem built_ro(h:Hd)(k:lenH h):Tryz.prog.built 198 [(0,idv h.txs),(1,idv h.past),(2, .agg (wcs h.work))]=some (roA h):=by
 have z1:(arrB 32 h.txs).size=32:=arrB_size _ _ (by rw[k.2.2.1];omega)
 have z2:(arrB 32 h.past).size=32:=arrB_size _ _ (by rw[k.2.2.2];omega)
 have z3:=wc_size h.work
 have e:cellsOfP [(0,idv h.txs),(1,idv h.past),(2, .agg (wcs h.work))]=roC h:=by simp[cellsOfP,roC,idv,Value.cells]
 have:=built_struct (t:=198) (n:=68) underlying198 (by kernel_rfl) (places:=[(0,32),(32,32),(64,4)]) (by kernel_rfl) (ps:=[(0,idv h.txs),(1,idv h.past),(2, .agg (wcs h.work))]) (by
  refine⟨?_,?_,?_,trivial⟩
  · show some (0,32)=some (0,(arrB 32 h.txs).size)
    rw[z1]
  · show some (32,32)=some (0+(arrB 32 h.txs).size,(arrB 32 h.past).size)
    rw[z1,z2]
  · show some (64,4)=some (0+(arrB 32 h.txs).size+(arrB 32 h.past).size,(wcs h.work).size)
    rw[z1,z2,z3]) (by rw[e,roC_len k])
 rw[this,e]
 rfl
def trC(b d:BlkM):List Value:=blkC b++blkC d
def trA(b d:BlkM):Array Value:=(trC b d).toArray
def trV(b d:BlkM):Value:= .agg (trA b d)
theorem trC_len{b d:BlkM}(k:lenH b.h)(q:lenH d.h):(trC b d).length=274:=by unfold trC;rw[lA,blkC_len k,blkC_len q]
theorem trA_size{b d:BlkM}(k:lenH b.h)(q:lenH d.h):(trA b d).size=274:=by unfold trA;rw[List.size_toArray,trC_len k q]
theorem trA_one(b d:BlkM):(trA b d).all (·.oneCell')=true:=by
 rw[Array.all_eq_true]
 intro i hi
 have h:(trA b d)[i]∈(trA b d).toList:=Array.mem_toList_iff.2 (Array.getElem_mem hi)
 rcases List.mem_append.1 (show (trA b d)[i]∈blkC b++blkC d from h)with h|h
 · exact blkC_one b _ h
 · exact blkC_one d _ h
theorem aggTr:AggT 112 274:=⟨fun w=>by simp[isAgg,run_underlying underlying112],by kernel_rfl⟩
theorem infoTr(cs:Array Value)(h:cs.size=274):(Tryz.prog.info? 112).map (·.size)=some cs.size:=by rw[h];exact aggTr.size
theorem zero_trA:trA noBlkM noBlkM=zeroCells112:=by kernel_rfl
theorem new_tr{dst:Option Tmp}{ty:TypeId}{pos:String}{after:Array Edge}{gd:Option (Nat × Bool)}(a:Act):NewAt Tryz.prog ⟨dst, .alloc 112,ty,pos,after,gd⟩ a (.cells (trA noBlkM noBlkM) 112 (0,0)):=fun u=>by
 rw[zero_trA]
 go_simp
theorem built_tr{b d:BlkM}(k:lenH b.h)(q:lenH d.h):Tryz.prog.built 112 [(0,blkV b),(1,blkV d)]=some (trA b d):=by
 have z1:=blkA_size k
 have z2:=blkA_size q
 have e:cellsOfP [(0,blkV b),(1,blkV d)]=trC b d:=by simp[cellsOfP,trC,blkV,blkA,Value.cells]
 have:=built_struct (t:=112) (n:=274) underlying112 (by kernel_rfl) (places:=[(0,137),(137,137)]) (by kernel_rfl) (ps:=[(0,blkV b),(1,blkV d)]) (by
  refine⟨?_,?_,trivial⟩
  · show some (0,137)=some (0,(blkA b).size)
    rw[z1]
  · show some (137,137)=some (0+(blkA b).size,(blkA d).size)
    rw[z1,z2]) (by rw[e,trC_len k q])
 rw[this,e]
 rfl
section
variable {w0 u:World}{M:Boxes}{g:Nat}{ty:TypeId}{b d:BlkM}
theorem box_tr(hu:EnvC w0 M u)(hm:(g,oc (trA b d) ty)∈M)(k:lenH b.h)(q:lenH d.h):(loadVar 112 ⟨g,0,none⟩).run Tryz.prog u= .ok (trV b d) u:=run_loadAgg aggTr (trC b d) (trC_len k q) (box_list hu hm)
theorem box_is(hu:EnvC w0 M u)(hm:(g,oc (trA b d) ty)∈M)(k:lenH b.h): ∀(j:Nat)(v:Value),(blkC b)[j]?=some v→u.cell? ((⟨g,0,none⟩:Addr).add j)=some v:=fun j v hj=>box_list hu hm j v (by
 have hl:j<(blkC b).length:=by
  rcases Nat.lt_or_ge j (blkC b).length with h|h
  · exact h
  · rw[gN h]at hj;cases hj
 unfold trC
 rw[List.getElem?_append_left hl]
 exact hj)
theorem box_must(hu:EnvC w0 M u)(hm:(g,oc (trA b d) ty)∈M)(k:lenH b.h): ∀(j:Nat)(v:Value),(blkC d)[j]?=some v→u.cell? ((⟨g,137,none⟩:Addr).add j)=some v:=fun j v hj=>by
 have h:=box_list hu hm (137+j) v (by
  unfold trC
  rw[List.getElem?_append_right (by rw[blkC_len k];omega),blkC_len k,Nat.add_sub_cancel_left]
  exact hj)
 rw[Addr.add_mid,Nat.zero_add]at h
 rw[Addr.add_mid]
 exact h
theorem is_hd(hu:EnvC w0 M u)(hm:(g,oc (trA b d) ty)∈M)(k:lenH b.h): ∀(j:Nat)(v:Value),(hdC b.h)[j]?=some v→u.cell? ((⟨g,0,none⟩:Addr).add j)=some v:=fun j v hj=>box_is hu hm k j v ((blk_cells k).1 j v hj)
theorem must_hd(hu:EnvC w0 M u)(hm:(g,oc (trA b d) ty)∈M)(k:lenH b.h)(q:lenH d.h): ∀(j:Nat)(v:Value),(hdC d.h)[j]?=some v→u.cell? ((⟨g,137,none⟩:Addr).add j)=some v:=fun j v hj=>box_must hu hm k j v ((blk_cells q).1 j v hj)
theorem is_l(hu:EnvC w0 M u)(hm:(g,oc (trA b d) ty)∈M)(k:lenH b.h):(loadVar 35 ⟨g,135,none⟩).run Tryz.prog u= .ok (.slice b.A1 b.n1 b.c1) u:=run_load_one oneIdsK u (by have:=box_is hu hm k 135 _ (blk_cells k).2.1;rwa[Addr.add_mid,Nat.zero_add]at this)
theorem must_l(hu:EnvC w0 M u)(hm:(g,oc (trA b d) ty)∈M)(k:lenH b.h)(q:lenH d.h):(loadVar 35 ⟨g,272,none⟩).run Tryz.prog u= .ok (.slice d.A1 d.n1 d.c1) u:=run_load_one oneIdsK u (by have:=box_must hu hm k 135 _ (blk_cells q).2.1;rwa[Addr.add_mid]at this)
end
theorem may_partsP(p:List CoinR):mayP p=(decide (p.length≤48) && (decide (upP p) && !p.any (fun c=>!boundC c))):=by
 unfold mayP
 rw[Bool.eq_iff_iff]
 simp only[decide_eq_true_eq,Bool.and_eq_true,Bool.not_eq_true',List.any_eq_false,Bool.not_eq_true',Bool.not_eq_false]
 constructor
 · rintro⟨h1,h2,h3⟩
   exact⟨h1,h3,fun c hc=>by rw[h2 c hc]⟩
 · rintro⟨h1,h2,h3⟩
   refine⟨h1,fun c hc=>?_,h2⟩
   have:=h3 c hc
   cases hb:boundC c with
   |true=>rfl
   |false=>rw[hb]at this;first|cases this|exact absurd rfl this
theorem up_getP{p:List CoinR}(hu:upP p){i j:Nat}(hij:i<j)(hj:j<p.length):beforeK (keyC (p.getD i noC0)) (keyC (p.getD j noC0))=true:=by
 have h:=(List.pairwise_iff_getElem.1 hu) i j (by omega) hj hij
 rw[gD,gE (show i<p.length by omega),gD,gE hj]
 exact h
theorem idP.get{p:List CoinR}(h:idP p){j:Nat}(hj:j<p.length):isId (keyC (p.getD j noC0)).tx:=by
 rw[gD,gE hj]
 exact h _ (List.getElem_mem hj)
def placeP:List CoinR→InR→Nat
  |[],_=>0
  |c::r,x=>if beforeK (keyC c) x then placeP r x+1 else 0
theorem placeP_le: ∀(p:List CoinR)(x:InR),placeP p x≤p.length
 |[],_=>Nat.le_refl _
 |c::r,x=>by
  unfold placeP
  split
  · have:=placeP_le r x
    rw[List.length_cons];omega
  · exact Nat.zero_le _
theorem placeP_lt: ∀(p:List CoinR)(x:InR)(j:Nat),j<placeP p x→beforeK (keyC (p.getD j noC0)) x=true
 |[],_,j,h=>by cases h
 |c::r,x,j,h=>by
  unfold placeP at h
  split at h
  · rename_i hb
    cases j with
    |zero=>exact hb
    |succ j=>exact placeP_lt r x j (by omega)
  · cases h
theorem placeP_at: ∀(p:List CoinR)(x:InR),placeP p x<p.length→beforeK (keyC (p.getD (placeP p x) noC0)) x=false
 |[],_,h=>by cases h
 |c::r,x,h=>by
  unfold placeP at h ⊢
  split
  · rename_i hb
    rw[if_pos hb,List.length_cons]at h
    exact placeP_at r x (by omega)
  · rename_i hb
    simpa using hb
theorem placeP_ge{p:List CoinR}{x:InR}(hp:idP p)(hx:isId x.tx)(hu:upP p){j:Nat}(h1:placeP p x≤j)(h2:j<p.length):beforeK (keyC (p.getD j noC0)) x=false:=by
 rcases Nat.lt_or_ge (placeP p x) j with h|h
 · have ha:=placeP_at p x (by omega)
   have hb:=up_getP hu h h2
   cases hc:beforeK (keyC (p.getD j noC0)) x with
   |false=>rfl
   |true=>
    have:=bef_trans (hp.get (by omega)) (hp.get h2) hx hb hc
    rw[ha]at this
    cases this
 · have e:j=placeP p x:=by omega
   subst e
   exact placeP_at p x h2
theorem placeP_of{p:List CoinR}{x:InR}{k:Nat}(h1:k≤p.length)(h2: ∀j,j<k→beforeK (keyC (p.getD j noC0)) x=true)(h3: ∀j,k≤j→j<p.length→beforeK (keyC (p.getD j noC0)) x=false):placeP p x=k:=by
 rcases Nat.lt_trichotomy (placeP p x) k with h|h|h
 · have a:=placeP_at p x (by omega)
   rw[h2 _ h]at a
   cases a
 · exact h
 · have a:=placeP_lt p x k h
   rw[h3 k (Nat.le_refl _) (by have:=placeP_le p x;omega)]at a
   cases a
theorem findP_place{p:List CoinR}{x:InR}(hp:idP p)(hx:isId x.tx)(hu:upP p):findP p x=if placeP p x<p.length∧keyC (p.getD (placeP p x) noC0)=x then (placeP p x:Int)else-1:=by
 split
 · rename_i h
   refine findP_hit0 h.1 h.2 fun j hj=>bef_ne (hp.get (by omega)) (placeP_lt p x j hj)
 · rename_i h
   refine findP_none0 fun j hj e=>?_
   rcases Nat.lt_trichotomy j (placeP p x)with g|g|g
   · have:=placeP_lt p x j g
     rw[e,bef_irr hx]at this
     cases this
   · subst g
     exact h ⟨hj,e⟩
   · have a:=placeP_at p x (by omega)
     have b:=up_getP hu g hj
     rw[e,a]at b
     cases b
theorem key_tx{a b:List Int}(ha:isId a)(hb:isId b)(h1:lessL a b=false)(h2:lessL b a=false):a=b:=by
 rcases less_three 32 a b ha.1 hb.1 with ⟨x,_,_⟩|⟨_,y,_⟩|⟨_,_,z⟩
 · rw[x]at h1;cases h1
 · rw[y]at h2;cases h2
 · exact of_decide_eq_true z
theorem there_place{p:List CoinR}{id:List Int}(hp:idP p)(hid:isId id)(hu:upP p)(hi: ∀c∈p,0≤c.i):thereP p id=(decide (placeP p ⟨id,0⟩<p.length) && decide ((p.getD (placeP p ⟨id,0⟩) noC0).tx=id)):=by
 rw[Bool.eq_iff_iff]
 simp only[Bool.and_eq_true,decide_eq_true_eq]
 constructor
 · intro h
   unfold thereP at h
   rw[List.any_eq_true]at h
   obtain⟨c,hc,e⟩:=h
   have e:c.tx=id:=of_decide_eq_true e
   obtain⟨j,hj,rfl⟩:=List.getElem_of_mem hc
   have hge:p.getD j noC0=p[j]:=by rw[gD,gE hj];rfl
   have hi0:=hi _ hc
   have hnb:beforeK (keyC (p.getD j noC0)) ⟨id,0⟩=false:=by
    rw[hge]
    unfold beforeK keyC
    simp only
    rw[e,less_irr hid.1]
    simp
    omega
   have hle:placeP p ⟨id,0⟩≤j:=by
    rcases Nat.lt_or_ge j (placeP p ⟨id,0⟩)with g|g
    · rw[placeP_lt p _ j g]at hnb;cases hnb
    · exact g
   refine⟨by omega,?_⟩
   rcases Nat.lt_or_ge (placeP p ⟨id,0⟩) j with g|g
   · have ha:=placeP_at p ⟨id,0⟩ (by omega)
     have hb:=up_getP hu g hj
     rw[hge]at hb
     have hq:=hp.get (show placeP p ⟨id,0⟩<p.length by omega)
     generalize p.getD (placeP p ⟨id,0⟩) noC0=d at *
     have h1:lessL d.tx id=false:=by
      unfold beforeK keyC at ha
      simp only[Bool.or_eq_false_iff]at ha
      exact ha.1
     have h2:lessL id d.tx=false:=by
      cases hl:lessL id d.tx with
      |false=>rfl
      |true=>
       unfold beforeK keyC at hb
       simp only[Bool.or_eq_true,Bool.and_eq_true,decide_eq_true_eq]at hb
       rw[e]at hb
       rcases hb with hb|hb
       · rw[h1]at hb;cases hb
       · rw[hb.1,less_irr hid.1]at hl;cases hl
     exact key_tx hq hid h1 h2
   · have e2:j=placeP p ⟨id,0⟩:=by omega
     rw[←e2,hge]
     exact e
 · rintro⟨h1,h2⟩
   exact thereP_hit h1 h2
theorem withP_mid: ∀(a b:List CoinR)(c:CoinR),(∀d∈a,beforeK (keyC c) (keyC d)=false)→(∀d∈b,beforeK (keyC c) (keyC d)=true)→withP (a++b) c=a++c::b
 |[],[],c,_,_=>rfl
 |[],d::b,c,_,h2=>by
  show withP (d::b) c=c::d::b
  unfold withP
  rw[if_pos (h2 d (List.mem_cons_self ..))]
 |d::a,b,c,h1,h2=>by
  show withP (d::(a++b)) c=d::(a++c::b)
  unfold withP
  rw[if_neg (by rw[h1 d (List.mem_cons_self ..)];decide),withP_mid a b c (fun x hx=>h1 x (mT hx)) h2]
theorem made_mid{id:List Int}(hid:isId id): ∀(os:List OutR)(i:Int)(a b:List CoinR),0≤i→(∀d∈a,∀j,i≤j→beforeK ⟨id,j⟩ (keyC d)=false)→(∀d∈b,∀j,beforeK ⟨id,j⟩ (keyC d)=true)→madeP (a++b) (newC id i os)=a++newC id i os++b
 |[],i,a,b,_,_,_=>by
  show a++b=a++[]++b
  simp
 |o::os,i,a,b,h0,h1,h2=>by
  show madeP (withP (a++b) ⟨id,i,o.v,o.tw⟩) (newC id (i+1) os)=a++(⟨id,i,o.v,o.tw⟩::newC id (i+1) os)++b
  rw[withP_mid a b ⟨id,i,o.v,o.tw⟩ (fun d hd=>h1 d hd i (Int.le_refl _)) (fun d hd=>h2 d hd i)]
  have:=made_mid hid os (i+1) (a++[⟨id,i,o.v,o.tw⟩]) b (by omega) (fun d hd j hj=>?_) h2
  · simp only[aA,List.cons_append,List.nil_append]at this ⊢
    exact this
  · rcases List.mem_append.1 hd with h|h
    · exact h1 d h j (by omega)
    · cases mS.1 h
      unfold beforeK keyC
      simp only
      rw[less_irr hid.1]
      simp
      omega
theorem made_place{p:List CoinR}{id:List Int}(hp:idP p)(hid:isId id)(hu:upP p)(ht:thereP p id=false)(os:List OutR):
   madeP p (newC id 0 os)=p.take (placeP p ⟨id,0⟩)++newC id 0 os++p.drop (placeP p ⟨id,0⟩):=by
 have h:=made_mid hid os 0 (p.take (placeP p ⟨id,0⟩)) (p.drop (placeP p ⟨id,0⟩)) (Int.le_refl _) (fun d hd j hj=>?_) (fun d hd j=>?_)
 · rwa[List.take_append_drop]at h
 · obtain⟨k,hk,rfl⟩:=List.getElem_of_mem hd
   rw[List.length_take]at hk
   have hlt:=placeP_lt p ⟨id,0⟩ k (by omega)
   have hkp:k<p.length:=by omega
   have hkey:=hp.get hkp
   rw[List.getElem_take]
   have hge:p.getD k noC0=p[k]:=by rw[gD,gE hkp];rfl
   rw[hge]at hlt hkey
   cases hb:beforeK ⟨id,j⟩ (keyC p[k])with
   |false=>rfl
   | true=>
     have:=bef_trans (a:=⟨id,j⟩) (b:=keyC p[k]) (c:=⟨id,0⟩) hid hkey hid hb hlt
     unfold beforeK at this
     simp only at this
     rw[less_irr hid.1]at this
     simp at this
     omega
 · obtain⟨k,hk,rfl⟩:=List.getElem_of_mem hd
   rw[List.length_drop]at hk
   rw[List.getElem_drop]
   have hkp:placeP p ⟨id,0⟩+k<p.length:=by omega
   have hnb:=placeP_ge hp (x:=⟨id,0⟩) hid hu (j:=placeP p ⟨id,0⟩+k) (by omega) hkp
   have hkey:=hp.get hkp
   have hge:p.getD (placeP p ⟨id,0⟩+k) noC0=p[placeP p ⟨id,0⟩+k]:=by rw[gD,gE hkp];rfl
   rw[hge]at hnb hkey
   have hne:p[placeP p ⟨id,0⟩+k].tx≠id:=thereP_no ht _ (List.getElem_mem hkp)
   generalize p[placeP p ⟨id,0⟩+k]=d at *
   have hb:=bef_tri (a:=keyC d) (b:=⟨id,0⟩) hkey hid hnb (fun e=>hne (congrArg InR.tx e))
   unfold beforeK keyC at hb ⊢
   simp only[Bool.or_eq_true,Bool.and_eq_true,decide_eq_true_eq]at hb ⊢
   rcases hb with hb|hb
   · exact .inl hb
   · exact absurd hb.1.symm hne
theorem run_stepO{p:List CoinR}{xs:List TxR}{i:Nat}(d:TxR)(hi:i<xs.length){q:List CoinR}{n:Int}(h:runP p 0 (xs.take i)= .ok (q,n)){q2:List CoinR}{m:Int}(hs:spendP q (xs.getD i d)=(q2,m,0)):runP p 0 (xs.take (i+1))= .ok (q2,n+m):=by
 rw[take_snocC d hi,runP_app,h]
 simp only
 unfold runP
 rw[hs]
 rfl
theorem run_stopO{p:List CoinR}{xs:List TxR}{i:Nat}(d:TxR)(hi:i<xs.length){q:List CoinR}{n:Int}(h:runP p 0 (xs.take i)= .ok (q,n)){q2:List CoinR}{m:Int}{e:Nat}(hs:spendP q (xs.getD i d)=(q2,m,e+1)):runP p 0 xs= .error (e+1):=by
 have e1:xs=xs.take i++(xs.getD i d::xs.drop (i+1)):=by
  have h1:=List.take_append_drop (i+1) xs
  rw[take_snocC d hi,aA]at h1
  exact h1.symm
 rw[e1,runP_app,h]
 simp only
 unfold runP
 rw[hs]
theorem pahead_any(a b:InR)(w:World)(ha:lenI a)(hb:lenI b):
  Rz 225 #[inV a,inV b] w (.bool (beforeK a b)):=by
 unfold Rz
 have HA:=hD ha
 have HB:=hD hb
 have HLS:Hid (∀u,Calls Tryz.prog 233 #[idv a.tx,idv b.tx] u fun e w'=>e= .returned (.bool (lessL a.tx b.tx))∧Below u.heap.size u w'):=fun u=>less_any a.tx b.tx u ha hb
 have E1:Hid (EnvX w ((w.alloc (.cells (inA a) 133)).alloc (.cells (inA b) 133)) [(w.heap.size+1,oc (inA b) 133),(w.heap.size,oc (inA a) 133)]):=(EnvX.start w).two _ _
 obtain⟨b2,h2⟩: ∃b2,eqL a.tx b.tx=b2:=⟨_,rfl⟩
 have HE:=hD h2
 have hirr:eqL a.tx b.tx=true→lessL a.tx b.tx=false:=fun h=>by rw[of_decide_eq_true h];exact less_irr hb
 have HF1:Hid (b2=true→beforeK a b=decide (a.i<b.i)):=fun h=>by
  rw[←h2]at h
  unfold beforeK
  rw[hirr h,show decide (a.tx=b.tx)=true from h]
  simp
 have HF2:Hid (b2=false→beforeK a b=lessL a.tx b.tx):=fun h=>by
  rw[←h2]at h
  unfold beforeK
  rw[show decide (a.tx=b.tx)=false from h]
  simp
 clear ha hb h2 hirr
 unfold inV
 cases b2 with
 |true=>
  obtain⟨b3,h3⟩: ∃b3,decide (a.i<b.i)=b3:=⟨_,rfl⟩
  have HI:=hD h3
  have HF:Hid (beforeK a b=b3):=by show _=_;rw[HF1.out rfl,h3]
  clear h3
  go_enter func225,ntmps225
  go_upto_region 1 with (fail)
  generalize (w.alloc (.cells (inA a) 133)).alloc (.cells (inA b) 133)=W at *
  refine rgQ [0,1,2,3,4] [] E1 rfl fun hw=>?_
  refine qf rfl hw ?_
  refine ql rfl (mT mH) HA.out hw ?_
  refine qf rfl hw ?_
  refine ql rfl mH HB.out hw ?_
  refine qv rfl (fun u hu=>eqlb_op HA.out HB.out HE.out u rfl rfl) hw ?_
  refine enP fun u3 EX2=>?_
  go_upto_region 2 with (fail)
  refine rgQ [0,1,2,3,4,5] [] EX2 rfl fun hw=>?_
  refine qf rfl hw ?_
  refine ql rfl (mT mH) HA.out hw ?_
  refine qf rfl hw ?_
  refine ql rfl mH HB.out hw ?_
  refine qv rfl (fun u hu=>ltZ_op u HI.out rfl rfl) hw ?_
  refine qo rfl hw ?_
  refine enP fun u6 EX5=>?_
  have HBE:=hD (EnvX.bel EX5.out)
  go_wp2
  go_ret
  exact⟨by rw[HF.out];first|done|rfl,HBE.out⟩
 |false=>
  have HF:Hid (beforeK a b=lessL a.tx b.tx):=HF2.out rfl
  generalize lessL a.tx b.tx=b3 at *
  go_enter func225,ntmps225
  go_upto_region 1 with (fail)
  generalize (w.alloc (.cells (inA a) 133)).alloc (.cells (inA b) 133)=W at *
  refine rgQ [0,1,2,3,4] [] E1 rfl fun hw=>?_
  refine qf rfl hw ?_
  refine ql rfl (mT mH) HA.out hw ?_
  refine qf rfl hw ?_
  refine ql rfl mH HB.out hw ?_
  refine qv rfl (fun u hu=>eqlb_op HA.out HB.out HE.out u rfl rfl) hw ?_
  refine enP fun u3 EX2=>?_
  go_upto_region 3 with (fail)
  refine rgQ [0,1,2,3,4,5] [] EX2 rfl fun hw=>?_
  refine qf rfl hw ?_
  refine ql rfl (mT mH) HA.out hw ?_
  refine qf rfl hw ?_
  refine ql rfl mH HB.out hw ?_
  refine qc rfl func233 (fun u hu=>HLS.out u) hw ?_
  refine qo rfl hw ?_
  refine enP fun u6 EX5=>?_
  have HBE:=hD (EnvX.bel EX5.out)
  go_wp2
  go_ret
  exact⟨by rw[HF.out];first|done|rfl,HBE.out⟩
theorem pinOrder_any (p:List CoinR) (A:Option Addr) (n c:Nat) (w:World) (hl:p.length=n) (hnc:n≤c) (hcm:c≤maxLen) (hI:okP p) (hA:CoinsIn w w.heap.size A p):
  Rz 207 #[.slice A n c] w (.bool (decide (upP p))):=by
 unfold Rz
 have HL:=hD hl
 have HPP:=hD hI
 have HAA:=hD hA
 have HN63:Hid (n<9223372036854775808):=by show _<_;unfold maxLen at hcm;omega
 have E1:Hid (EnvX w w []):=EnvX.start w
 clear hl hnc hcm hI hA
 go_enter func207,ntmps207
 go_upto_region 2 with (fail)
 go_loopw [3] (fun iv u=> ∃i:Nat,1≤i∧(i≤n∨i=1)∧iv= .int .i64 (i:Int)∧Hid ((∀j,j+1<i→beforeK (keyC (p.getD j noC0)) (keyC (p.getD (j+1) noC0))=true)∧EnvX w u [])) (fun iv _=>n- (intOf iv).toNat)
 case atStart=>exact⟨1,by omega, .inr rfl,rfl,(fun j hj=>by omega),E1.out⟩
 case round=>
  obtain⟨i,hi1,hi,rfl,hinv⟩:=hrel
  have H1:=hD hinv.out.1
  have EK:=hD hinv.out.2
  clear hinv E1
  by_cases hlt:i<n
  · obtain⟨k,rfl⟩: ∃k,i=k+1:=⟨i- 1,by omega⟩
    have C2:Hid (decide (((k+1:Nat):Int)<(n:Int))=true):=decide_eq_true (by omega)
    have HI:Hid (k+1<n):=hlt
    have HK:Hid (k<n):=by show _<_;omega
    have hil:k+1<p.length:=by rw[HL.out];exact hlt
    have HIL:=hD hil
    obtain⟨ad,rfl,-,hld⟩:=HAA.out.loads HPP.out hil
    have HLD:=hD hld
    obtain⟨ad2,e2,-,hld2⟩:=HAA.out.loads HPP.out (show k<p.length by omega)
    cases e2
    have HLK:=hD hld2
    have HX:Hid (lenC (p.getD (k+1) noC0)):=(getP HPP.out hil).len
    have HY:Hid (lenC (p.getD k noC0)):=(getP HPP.out (show k<p.length by omega)).len
    have HSB:Hid (IntKind.i64.wrap (((k+1:Nat):Int) - 1)=(k:Int)):=by show _=_;have h2:=HN63.out;rw[wrapS (by omega)];omega
    obtain⟨b,hb⟩: ∃b,beforeK (keyC (p.getD k noC0)) (keyC (p.getD (k+1) noC0))=b:=⟨_,rfl⟩
    have HBV:=hD hb
    have HBF:Hid (∀u,Calls Tryz.prog 225 #[inV (keyC (p.getD k noC0)),inV (keyC (p.getD (k+1) noC0))] u fun e w'=>e= .returned (.bool b)∧Below u.heap.size u w'):=fun u=>by
     have h:=pahead_any (keyC (p.getD k noC0)) (keyC (p.getD (k+1) noC0)) u HY.out HX.out
     rwa[hb]at h
    clear hld hld2 hb hil hlt hi hi1
    generalize hx:p.getD (k+1) noC0=x at HLD HX HBF HBV
    generalize hy:p.getD k noC0=y at HLK HY HBF HBV
    have HXE:=hD hx
    have HYE:=hD hy
    clear hx hy
    go_upto_region 2 with (fail)
    refine rgQ [0,1,2,3] [] EK rfl fun hw=>?_
    refine qw 2 hw ?_
    refine qv rfl (fun u hu=>len_op underlying39 HN63.out u rfl) hw ?_
    refine qv rfl (fun u hu=>ltZ_op u C2.out rfl rfl) hw ?_
    refine enP fun u13 EX12=>?_
    cases b with
    | false=>
     have HF:Hid (decide (upP p)=false):=decide_eq_false fun hu=>by
      have h:=up_getP hu (i:=k) (j:=k+1) (by omega) HIL.out
      rw[HXE.out,HYE.out,HBV.out]at h
      cases h
     go_upto_region 4 with (fail)
     refine rgK [0,1,2,3,4,5,6,7,8,9,10,11,12] 0 EX12 rfl fun hw=>?_
     refine qw 2 hw ?_
     refine qv rfl (fun u hu=>subZ_op u HSB.out rfl rfl) hw ?_
     refine qv rfl (fun u hu=>idxSl_op underlying39 aggCo.size HK.out u rfl rfl) hw ?_
     refine qv (v:= .pointer (some ((ad.add (k*35)).add 0))) rfl (fun u hu=>fieldCo_op (k:=0) (off:=0) rfl u rfl) hw ?_
     refine qv (v:=inV (keyC y)) rfl (fun u hu=>load_any_op u (by have h:=(HLK.out u (nl hu)).2.1;rwa[show ((ad.add (k*35)).add 0)=ad.add (k*35)by unfold Addr.add;rfl]) rfl) hw ?_
     refine qw 2 hw ?_
     refine qv (v:= .pointer (some (ad.add ((k+1)*35)))) rfl (fun u hu=>idxSl_op (i:=(k+1)) underlying39 aggCo.size HI.out u rfl rfl) hw ?_
     refine qv (v:= .pointer (some ((ad.add ((k+1)*35)).add 0))) rfl (fun u hu=>fieldCo_op (k:=0) (off:=0) rfl u rfl) hw ?_
     refine qv (v:=inV (keyC x)) rfl (fun u hu=>load_any_op u (by have h:=(HLD.out u (nl hu)).2.1;rwa[show ((ad.add ((k+1)*35)).add 0)=ad.add ((k+1)*35)by unfold Addr.add;rfl]) rfl) hw ?_
     refine qc rfl func225 (fun u hu=>HBF.out u) hw ?_
     refine qo rfl hw ?_
     refine eH fun u16 EX15=>?_
     go_upto_region 5 with (fail)
     refine rgQ [0] [] EX15 rfl fun hw=>?_
     refine qo rfl hw ?_
     refine enP fun u19 EX18=>?_
     have HBE:=hD (EnvX.bel EX18.out)
     go_wp2
     go_ret
     exact⟨by rw[HF.out];first|done|rfl,HBE.out⟩
    | true=>
     have H3:Hid (∀j,j+1<k+1+1→beforeK (keyC (p.getD j noC0)) (keyC (p.getD (j+1) noC0))=true):=fun j hj=>by
      rcases Nat.lt_or_ge (j+1) (k+1)with h|h
      · exact H1.out j h
      · obtain rfl:j=k:=by omega
        rw[HYE.out,HXE.out]
        exact HBV.out
     go_upto_region 4 with (fail)
     refine rgK [0,1,2,3,4,5,6,7,8,9,10,11,12] 0 EX12 rfl fun hw=>?_
     refine qw 2 hw ?_
     refine qv rfl (fun u hu=>subZ_op u HSB.out rfl rfl) hw ?_
     refine qv rfl (fun u hu=>idxSl_op underlying39 aggCo.size HK.out u rfl rfl) hw ?_
     refine qv (v:= .pointer (some ((ad.add (k*35)).add 0))) rfl (fun u hu=>fieldCo_op (k:=0) (off:=0) rfl u rfl) hw ?_
     refine qv (v:=inV (keyC y)) rfl (fun u hu=>load_any_op u (by have h:=(HLK.out u (nl hu)).2.1;rwa[show ((ad.add (k*35)).add 0)=ad.add (k*35)by unfold Addr.add;rfl]) rfl) hw ?_
     refine qw 2 hw ?_
     refine qv (v:= .pointer (some (ad.add ((k+1)*35)))) rfl (fun u hu=>idxSl_op (i:=(k+1)) underlying39 aggCo.size HI.out u rfl rfl) hw ?_
     refine qv (v:= .pointer (some ((ad.add ((k+1)*35)).add 0))) rfl (fun u hu=>fieldCo_op (k:=0) (off:=0) rfl u rfl) hw ?_
     refine qv (v:=inV (keyC x)) rfl (fun u hu=>load_any_op u (by have h:=(HLD.out u (nl hu)).2.1;rwa[show ((ad.add ((k+1)*35)).add 0)=ad.add ((k+1)*35)by unfold Addr.add;rfl]) rfl) hw ?_
     refine qc rfl func225 (fun u hu=>HBF.out u) hw ?_
     refine qo rfl hw ?_
     refine eH fun u16 EX15=>?_
     have hii:=HI.out
     have hn:=HN63.out
     go_wp2
     go_roundw
     case rel=>exact⟨k+1+1,by omega, .inl (by omega),by go_num,H3.out,EX15.out⟩
     case measure=>simp[intOf];omega
  · have C2:Hid (decide ((i:Int)<(n:Int))=false):=decide_eq_false (by omega)
    have HF:Hid (decide (upP p)=true):=decide_eq_true (up_steps HPP.out.id (fun j hj=>H1.out j (by have:=HL.out;omega)))
    clear hlt hi hi1
    go_upto_region 2 with (fail)
    refine rgQ [0,1,2,3] [] EK rfl fun hw=>?_
    refine qw 2 hw ?_
    refine qv rfl (fun u hu=>len_op underlying39 HN63.out u rfl) hw ?_
    refine qv rfl (fun u hu=>ltZ_op u C2.out rfl rfl) hw ?_
    refine enP fun u203 EX202=>?_
    go_upto_region 6 with (fail)
    refine rgQ [0] [] EX202 rfl fun hw=>?_
    refine qo rfl hw ?_
    refine enP fun u206 EX205=>?_
    have HBE:=hD (EnvX.bel EX205.out)
    go_wp2
    go_ret
    exact⟨by rw[HF.out];first|done|rfl,HBE.out⟩
theorem pmayNot_any(x:CoinR)(w:World)(hx:lenC x):
   Rz 209 #[coV x] w (.bool (!boundC x)):=by
 unfold Rz
 have HX:=hD hx
 have E1:Hid (EnvX w (w.alloc (.cells (coA x) 137)) [(w.heap.size,oc (coA x) 137)]):=(EnvX.start w).new _
 clear hx
 unfold coV
 by_cases c0:x.i<0
 · have B0:Hid (decide (x.i<0)=true):=decide_eq_true c0
   have HF:Hid ((!boundC x)=true):=by
    have h:boundC x=false:=decide_eq_false (by omega)
    show _=_
    rw[h]
    rfl
   clear c0
   go_enter func209,ntmps209
   go_upto_region 1 with (fail)
   generalize w.alloc (.cells (coA x) 137)=W at *
   refine rgQ [0,1,2,3,4,5,6,7,8,9,10,11,12,13,14,15,16,17,18,19,20,21,22,23,24,25,26,27,28,29,30,31,32,33,34] [] E1 rfl fun hw=>?_
   refine qw 2 hw ?_
   refine ql rfl mH HX.out hw ?_
   refine qv rfl (fun u hu=>ltZ_op u B0.out rfl rfl) hw ?_
   refine qw 31 hw ?_
   refine enP fun u3 EX2=>?_
   have HBE:=hD (EnvX.bel EX2.out)
   go_wp2
   go_ret
   exact⟨by rw[HF.out];first|done|rfl,HBE.out⟩
 have B0:Hid (decide (x.i<0)=false):=decide_eq_false c0
 by_cases c1:2<x.i
 · have B1:Hid (decide (2<x.i)=true):=decide_eq_true c1
   have HF:Hid ((!boundC x)=true):=by
    have h:boundC x=false:=decide_eq_false (by omega)
    show _=_
    rw[h]
    rfl
   clear c0 c1
   go_enter func209,ntmps209
   go_upto_region 1 with (fail)
   generalize w.alloc (.cells (coA x) 137)=W at *
   refine rgQ [0,1,2,3,4,5,6,7,8,9,10,11,12,13,14,15,16,17,18,19,20,21,22,23,24,25,26,27,28,29,30,31,32,33,34] [] E1 rfl fun hw=>?_
   refine qw 2 hw ?_
   refine ql rfl mH HX.out hw ?_
   refine qv rfl (fun u hu=>ltZ_op u B0.out rfl rfl) hw ?_
   refine qw 3 hw ?_
   refine ql rfl mH HX.out hw ?_
   refine qv rfl (fun u hu=>gtZ_op u B1.out rfl rfl) hw ?_
   refine qw 26 hw ?_
   refine enP fun u3 EX2=>?_
   have HBE:=hD (EnvX.bel EX2.out)
   go_wp2
   go_ret
   exact⟨by rw[HF.out];first|done|rfl,HBE.out⟩
 have B1:Hid (decide (2<x.i)=false):=decide_eq_false c1
 by_cases c2:x.v<1
 · have B2:Hid (decide (x.v<1)=true):=decide_eq_true c2
   have HF:Hid ((!boundC x)=true):=by
    have h:boundC x=false:=decide_eq_false (by omega)
    show _=_
    rw[h]
    rfl
   clear c0 c1 c2
   go_enter func209,ntmps209
   go_upto_region 1 with (fail)
   generalize w.alloc (.cells (coA x) 137)=W at *
   refine rgQ [0,1,2,3,4,5,6,7,8,9,10,11,12,13,14,15,16,17,18,19,20,21,22,23,24,25,26,27,28,29,30,31,32,33,34] [] E1 rfl fun hw=>?_
   refine qw 2 hw ?_
   refine ql rfl mH HX.out hw ?_
   refine qv rfl (fun u hu=>ltZ_op u B0.out rfl rfl) hw ?_
   refine qw 3 hw ?_
   refine ql rfl mH HX.out hw ?_
   refine qv rfl (fun u hu=>gtZ_op u B1.out rfl rfl) hw ?_
   refine qw 3 hw ?_
   refine qf (o2:=33) rfl hw ?_
   refine ql rfl mH HX.out hw ?_
   refine qv rfl (fun u hu=>ltZ_op u B2.out rfl rfl) hw ?_
   refine qw 20 hw ?_
   refine enP fun u3 EX2=>?_
   have HBE:=hD (EnvX.bel EX2.out)
   go_wp2
   go_ret
   exact⟨by rw[HF.out];first|done|rfl,HBE.out⟩
 have B2:Hid (decide (x.v<1)=false):=decide_eq_false c2
 by_cases c3:1099511627776<x.v
 · have B3:Hid (decide (1099511627776<x.v)=true):=decide_eq_true c3
   have HF:Hid ((!boundC x)=true):=by
    have h:boundC x=false:=decide_eq_false (by omega)
    show _=_
    rw[h]
    rfl
   clear c0 c1 c2 c3
   go_enter func209,ntmps209
   go_upto_region 1 with (fail)
   generalize w.alloc (.cells (coA x) 137)=W at *
   refine rgQ [0,1,2,3,4,5,6,7,8,9,10,11,12,13,14,15,16,17,18,19,20,21,22,23,24,25,26,27,28,29,30,31,32,33,34] [] E1 rfl fun hw=>?_
   refine qw 2 hw ?_
   refine ql rfl mH HX.out hw ?_
   refine qv rfl (fun u hu=>ltZ_op u B0.out rfl rfl) hw ?_
   refine qw 3 hw ?_
   refine ql rfl mH HX.out hw ?_
   refine qv rfl (fun u hu=>gtZ_op u B1.out rfl rfl) hw ?_
   refine qw 3 hw ?_
   refine qf (o2:=33) rfl hw ?_
   refine ql rfl mH HX.out hw ?_
   refine qv rfl (fun u hu=>ltZ_op u B2.out rfl rfl) hw ?_
   refine qw 3 hw ?_
   refine qf (o2:=33) rfl hw ?_
   refine ql rfl mH HX.out hw ?_
   refine qv rfl (fun u hu=>gtZ_op u B3.out rfl rfl) hw ?_
   refine qw 14 hw ?_
   refine enP fun u3 EX2=>?_
   have HBE:=hD (EnvX.bel EX2.out)
   go_wp2
   go_ret
   exact⟨by rw[HF.out];first|done|rfl,HBE.out⟩
 have B3:Hid (decide (1099511627776<x.v)=false):=decide_eq_false c3
 by_cases c4:x.tw<0
 · have B4:Hid (decide (x.tw<0)=true):=decide_eq_true c4
   have HF:Hid ((!boundC x)=true):=by
    have h:boundC x=false:=decide_eq_false (by omega)
    show _=_
    rw[h]
    rfl
   clear c0 c1 c2 c3 c4
   go_enter func209,ntmps209
   go_upto_region 1 with (fail)
   generalize w.alloc (.cells (coA x) 137)=W at *
   refine rgQ [0,1,2,3,4,5,6,7,8,9,10,11,12,13,14,15,16,17,18,19,20,21,22,23,24,25,26,27,28,29,30,31,32,33,34] [] E1 rfl fun hw=>?_
   refine qw 2 hw ?_
   refine ql rfl mH HX.out hw ?_
   refine qv rfl (fun u hu=>ltZ_op u B0.out rfl rfl) hw ?_
   refine qw 3 hw ?_
   refine ql rfl mH HX.out hw ?_
   refine qv rfl (fun u hu=>gtZ_op u B1.out rfl rfl) hw ?_
   refine qw 3 hw ?_
   refine qf (o2:=33) rfl hw ?_
   refine ql rfl mH HX.out hw ?_
   refine qv rfl (fun u hu=>ltZ_op u B2.out rfl rfl) hw ?_
   refine qw 3 hw ?_
   refine qf (o2:=33) rfl hw ?_
   refine ql rfl mH HX.out hw ?_
   refine qv rfl (fun u hu=>gtZ_op u B3.out rfl rfl) hw ?_
   refine qw 3 hw ?_
   refine qf (o2:=34) rfl hw ?_
   refine ql rfl mH HX.out hw ?_
   refine qv rfl (fun u hu=>ltZ_op u B4.out rfl rfl) hw ?_
   refine qw 8 hw ?_
   refine enP fun u3 EX2=>?_
   have HBE:=hD (EnvX.bel EX2.out)
   go_wp2
   go_ret
   exact⟨by rw[HF.out];first|done|rfl,HBE.out⟩
 have B4:Hid (decide (x.tw<0)=false):=decide_eq_false c4
 by_cases c5:255<x.tw
 · have B5:Hid (decide (255<x.tw)=true):=decide_eq_true c5
   have HF:Hid ((!boundC x)=true):=by
    have h:boundC x=false:=decide_eq_false (by omega)
    show _=_
    rw[h]
    rfl
   clear c0 c1 c2 c3 c4 c5
   go_enter func209,ntmps209
   go_upto_region 1 with (fail)
   generalize w.alloc (.cells (coA x) 137)=W at *
   refine rgQ [0,1,2,3,4,5,6,7,8,9,10,11,12,13,14,15,16,17,18,19,20,21,22,23,24,25,26,27,28,29,30,31,32,33,34] [] E1 rfl fun hw=>?_
   refine qw 2 hw ?_
   refine ql rfl mH HX.out hw ?_
   refine qv rfl (fun u hu=>ltZ_op u B0.out rfl rfl) hw ?_
   refine qw 3 hw ?_
   refine ql rfl mH HX.out hw ?_
   refine qv rfl (fun u hu=>gtZ_op u B1.out rfl rfl) hw ?_
   refine qw 3 hw ?_
   refine qf (o2:=33) rfl hw ?_
   refine ql rfl mH HX.out hw ?_
   refine qv rfl (fun u hu=>ltZ_op u B2.out rfl rfl) hw ?_
   refine qw 3 hw ?_
   refine qf (o2:=33) rfl hw ?_
   refine ql rfl mH HX.out hw ?_
   refine qv rfl (fun u hu=>gtZ_op u B3.out rfl rfl) hw ?_
   refine qw 3 hw ?_
   refine qf (o2:=34) rfl hw ?_
   refine ql rfl mH HX.out hw ?_
   refine qv rfl (fun u hu=>ltZ_op u B4.out rfl rfl) hw ?_
   refine qw 3 hw ?_
   refine qf (o2:=34) rfl hw ?_
   refine ql rfl mH HX.out hw ?_
   refine qv rfl (fun u hu=>gtZ_op u B5.out rfl rfl) hw ?_
   refine qw 2 hw ?_
   refine enP fun u3 EX2=>?_
   have HBE:=hD (EnvX.bel EX2.out)
   go_wp2
   go_ret
   exact⟨by rw[HF.out];first|done|rfl,HBE.out⟩
 have B5:Hid (decide (255<x.tw)=false):=decide_eq_false c5
 have HF:Hid ((!boundC x)=false):=by
   have h:boundC x=true:=decide_eq_true (by omega)
   show _=_
   rw[h]
   rfl
 clear c0 c1 c2 c3 c4 c5
 go_enter func209,ntmps209
 go_upto_region 1 with (fail)
 generalize w.alloc (.cells (coA x) 137)=W at *
 refine rgQ [0,1,2,3,4,5,6,7,8,9,10,11,12,13,14,15,16,17,18,19,20,21,22,23,24,25,26,27,28,29,30,31,32,33,34] [] E1 rfl fun hw=>?_
 refine qw 2 hw ?_
 refine ql rfl mH HX.out hw ?_
 refine qv rfl (fun u hu=>ltZ_op u B0.out rfl rfl) hw ?_
 refine qw 3 hw ?_
 refine ql rfl mH HX.out hw ?_
 refine qv rfl (fun u hu=>gtZ_op u B1.out rfl rfl) hw ?_
 refine qw 3 hw ?_
 refine qf (o2:=33) rfl hw ?_
 refine ql rfl mH HX.out hw ?_
 refine qv rfl (fun u hu=>ltZ_op u B2.out rfl rfl) hw ?_
 refine qw 3 hw ?_
 refine qf (o2:=33) rfl hw ?_
 refine ql rfl mH HX.out hw ?_
 refine qv rfl (fun u hu=>gtZ_op u B3.out rfl rfl) hw ?_
 refine qw 3 hw ?_
 refine qf (o2:=34) rfl hw ?_
 refine ql rfl mH HX.out hw ?_
 refine qv rfl (fun u hu=>ltZ_op u B4.out rfl rfl) hw ?_
 refine qw 3 hw ?_
 refine qf (o2:=34) rfl hw ?_
 refine ql rfl mH HX.out hw ?_
 refine qv rfl (fun u hu=>gtZ_op u B5.out rfl rfl) hw ?_
 refine qw 2 hw ?_
 refine enP fun u3 EX2=>?_
 have HBE:=hD (EnvX.bel EX2.out)
 go_wp2
 go_ret
 exact⟨by rw[HF.out];first|done|rfl,HBE.out⟩
def idxW(pf:CoinR→Bool)(p:List CoinR):Int:=match p.findIdx? pf with
  |some k=>k
  |none=> -1
theorem idxW_none{pf:CoinR→Bool}{p:List CoinR}(h: ∀j,j<p.length→pf (p.getD j noC0)=false):idxW pf p= -1:=by
 have e:p.findIdx? pf=none:=List.findIdx?_eq_none_iff.2 fun c hc=>by
  obtain⟨j,hj,rfl⟩:=List.getElem_of_mem hc
  have:=h j hj
  rw[gD,gE hj]at this
  simpa using this
 unfold idxW
 rw[e]
theorem idxW_hit{pf:CoinR→Bool}{p:List CoinR}{k:Nat}(hk:k<p.length)(h:pf (p.getD k noC0)=true)(hn: ∀j,j<k→pf (p.getD j noC0)=false):idxW pf p=(k:Int):=by
 have e:p.findIdx? pf=some k:=List.findIdx?_eq_some_iff_getElem.2 ⟨hk,by
  rw[gD,gE hk]at h
  exact h,fun j hj=>by
  have:=hn j hj
  rw[gD,gE (show j<p.length by omega)]at this
  simpa using this⟩
 unfold idxW
 rw[e]
theorem idxW_any(pf:CoinR→Bool)(p:List CoinR):decide (0≤idxW pf p)=p.any pf:=by
 unfold idxW
 cases h:p.findIdx? pf with
 |none=>
  have:=List.findIdx?_eq_none_iff.1 h
  symm
  simp only[List.any_eq_false]
  show p.any pf=decide ((0:Int)≤ -1)
  rw[show decide ((0:Int)≤ -1)=false by decide,List.any_eq_false]
  exact fun c hc=>by have:=this c hc;simpa using this
 |some k=>
  obtain⟨hk,h1,_⟩:=List.findIdx?_eq_some_iff_getElem.1 h
  symm
  show p.any pf=decide ((0:Int)≤(k:Int))
  rw[decide_eq_true (by omega:(0:Int)≤(k:Int)),List.any_eq_true]
  exact⟨_,List.getElem_mem hk,h1⟩
theorem pindex_any(pf:CoinR→Bool)(p:List CoinR)(A:Option Addr)(n c:Nat)(w:World)(hl:p.length=n)(hnc:n≤c)(hcm:c≤maxLen)(hI:okP p)(hA:CoinsIn w w.heap.size A p)
  (hf: ∀u,Below w.heap.size w u→ ∀y,lenC y→Calls Tryz.prog 209 #[coV y] u fun e w'=>e= .returned (.bool (pf y))∧Below u.heap.size u w'):
  Calls Tryz.prog 226 #[.slice A n c, .func (.func 209) #[] #[]] w fun e w'=>e= .returned (.int .i64 (idxW pf p))∧Below w.heap.size w w':=by
 have HL:=hD hl
 have HPP:=hD hI
 have HAA:=hD hA
 have HN63:Hid (n<9223372036854775808):=by show _<_;unfold maxLen at hcm;omega
 have HFN:=hD hf
 have E1:Hid (EnvX w w []):=EnvX.start w
 clear hl hnc hcm hI hA hf
 go_enter func226,ntmps226
 go_upto_region 1 with (fail)
 refine rgQ [0,1,2] [] E1 rfl fun hw=>?_
 refine qo rfl hw ?_
 refine qv rfl (fun u hu=>len_op underlying39 HN63.out u rfl) hw ?_
 refine qo rfl hw ?_
 refine enP fun u3 EX2=>?_
 go_upto_region 2 with (fail)
 go_loopw [8] (fun iv u=> ∃i:Nat,i≤n∧iv= .int .i64 (i:Int)∧Hid ((∀j,j<i→pf (p.getD j noC0)=false)∧EnvX w u [])) (fun iv _=>n- (intOf iv).toNat)
 case atStart=>exact⟨0,by omega,rfl,(fun j hj=>by omega),EX2.out⟩
 case round=>
  obtain⟨i,hi,rfl,hinv⟩:=hrel
  have H1:=hD hinv.out.1
  have EK:=hD hinv.out.2
  clear hinv EX2 E1
  by_cases hlt:i<n
  · have C2:Hid (decide ((i:Int)<(n:Int))=true):=decide_eq_true (by omega)
    have HI:=hD hlt
    have hil:i<p.length:=by rw[HL.out];exact hlt
    have HIL:=hD hil
    obtain⟨ad,rfl,-,hld⟩:=HAA.out.loads HPP.out hil
    have HLD:=hD hld
    have HY:Hid (lenC (p.getD i noC0)):=(getP HPP.out hil).len
    obtain⟨y,hy⟩: ∃y,p.getD i noC0=y:=⟨_,rfl⟩
    have HYE:=hD hy
    rw[hy]at HLD HY
    obtain⟨b,hb⟩: ∃b,pf y=b:=⟨_,rfl⟩
    have HBV:=hD hb
    have HBF:Hid (Rb w 209 #[coV y] (.bool b)):=fun u hu=>by
     have h:=HFN.out u hu y HY.out
     rwa[hb]at h
    clear hld hil hlt hy hb
    go_upto_region 2 with (fail)
    refine rgQ [0] [] EK rfl fun hw=>?_
    refine qv rfl (fun u hu=>ltZ_op u C2.out rfl rfl) hw ?_
    refine enP fun u33 EX32=>?_
    go_upto_region 3 with (fail)
    refine rgQ [0,1] [] EX32 rfl fun hw=>?_
    refine qw 2 hw ?_
    refine enP fun u36 EX35=>?_
    cases b with
    |true=>
     have HF:Hid (idxW pf p=(i:Int)):=idxW_hit HIL.out (by rw[HYE.out];exact HBV.out) H1.out
     go_upto_region 4 with (fail)
     refine rgP [0,1,2,3,4,5] [] EX35 rfl ?_;intro hw37 hone
     iterate 3 refine qo rfl ⟨_,hw37⟩ ?_
     refine qv rfl (fun u hu=>idxSl_op underlying39 aggCo.size HI.out u rfl rfl) ⟨_,hw37⟩ ?_
     refine qv rfl (fun u hu=>load_any_op u (HLD.out u (nl hu)).1 rfl) ⟨_,hw37⟩ ?_
     (refine wpG_callV (f:=209) (args:= #[coV y]) (caps:= #[]) (all:= #[coV y]) (v:= .bool true) rfl rfl rfl rfl rfl func209 rfl rfl (fun u hu=>HBF.out u (EnvX.bel hu)) ?_ hw37;intro K hK;go_big_quiet_op;go_big_quiet_on)
     clear hone hw37;refine enP fun u39 EX38=>?_
     go_upto_region 5 with (fail)
     refine rgQ [0,1] [] EX38 rfl fun hw=>?_
     refine qw 2 hw ?_
     refine enP fun u42 EX41=>?_
     have HBE:=hD (EnvX.bel EX41.out)
     go_wp2
     go_ret
     exact⟨by rw[HF.out];first|done|rfl,HBE.out⟩
    | false=>
     have H3:Hid (∀j,j<i+1→pf (p.getD j noC0)=false):=fun j hj=>by
      rcases Nat.lt_or_ge j i with h|h
      · exact H1.out j h
      · rw[show j=i by omega,HYE.out];exact HBV.out
     go_upto_region 4 with (fail)
     refine rgP [0,1,2,3,4,5] [] EX35 rfl ?_;intro hw37 hone
     iterate 3 refine qo rfl ⟨_,hw37⟩ ?_
     refine qv rfl (fun u hu=>idxSl_op underlying39 aggCo.size HI.out u rfl rfl) ⟨_,hw37⟩ ?_
     refine qv rfl (fun u hu=>load_any_op u (HLD.out u (nl hu)).1 rfl) ⟨_,hw37⟩ ?_
     (refine wpG_callV (f:=209) (args:= #[coV y]) (caps:= #[]) (all:= #[coV y]) (v:= .bool false) rfl rfl rfl rfl rfl func209 rfl rfl (fun u hu=>HBF.out u (EnvX.bel hu)) ?_ hw37;intro K hK;go_big_quiet_op;go_big_quiet_on)
     clear hone hw37;refine enP fun u39 EX38=>?_
     have hii:=HI.out
     have hn:=HN63.out
     go_wp2
     go_roundw
     case rel=>exact⟨i+1,by omega,by go_num,H3.out,EX38.out⟩
     case measure=>simp[intOf];omega
  · obtain rfl:i=n:=by omega
    have C2:Hid (decide ((i:Int)<(i:Int))=false):=decide_eq_false (by omega)
    have HF:Hid (idxW pf p= -1):=idxW_none (by rw[HL.out];exact H1.out)
    go_upto_region 2 with (fail)
    refine rgQ [0] [] EK rfl fun hw=>?_
    refine qv rfl (fun u hu=>ltZ_op u C2.out rfl rfl) hw ?_
    refine enP fun u203 EX202=>?_
    go_upto_region 7 with (fail)
    refine rgQ [0] [] EX202 rfl fun hw=>?_
    refine qo rfl hw ?_
    refine enP fun u206 EX205=>?_
    have HBE:=hD (EnvX.bel EX205.out)
    go_wp2
    go_ret
    exact⟨by rw[HF.out];first|done|rfl,HBE.out⟩
theorem pcontains_any(p:List CoinR)(A:Option Addr)(n c:Nat)(w:World)(hl:p.length=n)(hnc:n≤c)(hcm:c≤maxLen)(hI:okP p)(hA:CoinsIn w w.heap.size A p):
  Rz 208 #[.slice A n c, .func (.func 209) #[] #[]] w (.bool (p.any fun y=>!boundC y)):=by
 unfold Rz
 have HIX:Hid (Rb w 226 #[.slice A n c, .func (.func 209) #[] #[]] (.int .i64 (idxW (fun y=>!boundC y) p))):=fun u hu=>
  pindex_any _ p A n c u hl hnc hcm hI (CellsIn.up hA hu) (fun v _ y hy=>pmayNot_any y v hy)
 have E1:Hid (EnvX w w []):=EnvX.start w
 obtain⟨b,hb⟩: ∃b,(p.any fun y=>!boundC y)=b:=⟨_,rfl⟩
 have h1:=idxW_any (fun y=>!boundC y) p
 rw[hb]at h1
 have HG:=hD h1
 have HF:=hD hb
 clear hl hnc hcm hI hA hb h1
 generalize idxW (fun y=>!boundC y) p=k at *
 go_enter func208,ntmps208
 go_upto_region 1 with (fail)
 refine rgQ [0,1,2,3,4] [] E1 rfl fun hw=>?_
 refine qw 2 hw ?_
 refine qc rfl func226 (fun u hu=>HIX.out u (EnvX.bel hu)) hw ?_
 refine qv rfl (fun u hu=>geZ_op u HG.out rfl rfl) hw ?_
 refine qo rfl hw ?_
 refine enP fun u3 EX2=>?_
 have HBE:=hD (EnvX.bel EX2.out)
 go_wp2
 go_ret
 exact⟨by rw[HF.out];first|done|rfl,HBE.out⟩
theorem pmayP_any(p:List CoinR)(A:Option Addr)(n c:Nat)(w:World)(hl:p.length=n)(hnc:n≤c)(hcm:c≤maxLen)(hI:okP p)(hA:CoinsIn w w.heap.size A p):
  Rz 181 #[.slice A n c] w (.bool (mayP p)):=by
 unfold Rz
 have HN63:Hid (n<9223372036854775808):=by show _<_;unfold maxLen at hcm;omega
 have E1:Hid (EnvX w w []):=EnvX.start w
 have hp:=may_partsP p
 obtain⟨b1,h1⟩: ∃b1,decide (p.length≤48)=b1:=⟨_,rfl⟩
 obtain⟨b2,h2⟩: ∃b2,decide (upP p)=b2:=⟨_,rfl⟩
 obtain⟨b3,h3⟩: ∃b3,(p.any fun y=>!boundC y)=b3:=⟨_,rfl⟩
 rw[h1,h2,h3]at hp
 have HF:=hD hp
 have C2:Hid (decide ((n:Int)≤48)=b1):=by show _=_;rw[←h1,hl];exact decide_eq_decide.2 ⟨fun h=>by omega,fun h=>by omega⟩
 have HIN:Hid (Rb w 207 #[.slice A n c] (.bool b2)):=fun u hu=>by
  have h:=pinOrder_any p A n c u hl hnc hcm hI (CellsIn.up hA hu)
  rwa[h2]at h
 have HCN:Hid (Rb w 208 #[.slice A n c, .func (.func 209) #[] #[]] (.bool b3)):=fun u hu=>by
  have h:=pcontains_any p A n c u hl hnc hcm hI (CellsIn.up hA hu)
  rwa[h3]at h
 clear hl hnc hcm hI hA h1 h2 h3 hp
 cases b1 with
 |false=>
  go_enter func181,ntmps181
  go_upto_region 1 with (fail)
  refine rgQ [0,1,2,3,4,5,6,7,8,9,10,11,12] [] E1 rfl fun hw=>?_
  refine qo rfl hw ?_
  refine qv rfl (fun u hu=>len_op underlying39 HN63.out u rfl) hw ?_
  refine qv rfl (fun u hu=>leZ_op u C2.out rfl rfl) hw ?_
  refine qw 10 hw ?_
  refine enP fun u3 EX2=>?_
  have HBE:=hD (EnvX.bel EX2.out)
  go_wp2
  go_ret
  exact⟨by rw[HF.out];first|done|rfl,HBE.out⟩
 | true=>
  cases b2 with
  |false=>
   go_enter func181,ntmps181
   go_upto_region 1 with (fail)
   refine rgQ [0,1,2,3,4,5,6,7,8,9,10,11,12] [] E1 rfl fun hw=>?_
   refine qo rfl hw ?_
   refine qv rfl (fun u hu=>len_op underlying39 HN63.out u rfl) hw ?_
   refine qv rfl (fun u hu=>leZ_op u C2.out rfl rfl) hw ?_
   refine qw 2 hw ?_
   refine qc rfl func207 (fun u hu=>HIN.out u (EnvX.bel hu)) hw ?_
   refine qw 7 hw ?_
   refine enP fun u3 EX2=>?_
   have HBE:=hD (EnvX.bel EX2.out)
   go_wp2
   go_ret
   exact⟨by rw[HF.out];first|done|rfl,HBE.out⟩
  | true=>
   cases b3 with
   |false=>
    go_enter func181,ntmps181
    go_upto_region 1 with (fail)
    refine rgQ [0,1,2,3,4,5,6,7,8,9,10,11,12] [] E1 rfl fun hw=>?_
    refine qo rfl hw ?_
    refine qv rfl (fun u hu=>len_op underlying39 HN63.out u rfl) hw ?_
    refine qv rfl (fun u hu=>leZ_op u C2.out rfl rfl) hw ?_
    refine qw 2 hw ?_
    refine qc rfl func207 (fun u hu=>HIN.out u (EnvX.bel hu)) hw ?_
    refine qw 3 hw ?_
    refine qc rfl func208 (fun u hu=>HCN.out u (EnvX.bel hu)) hw ?_
    refine qw 3 hw ?_
    refine enP fun u3 EX2=>?_
    have HBE:=hD (EnvX.bel EX2.out)
    go_wp2
    go_ret
    exact⟨by rw[HF.out];first|done|rfl,HBE.out⟩
   |true=>
    go_enter func181,ntmps181
    go_upto_region 1 with (fail)
    refine rgQ [0,1,2,3,4,5,6,7,8,9,10,11,12] [] E1 rfl fun hw=>?_
    refine qo rfl hw ?_
    refine qv rfl (fun u hu=>len_op underlying39 HN63.out u rfl) hw ?_
    refine qv rfl (fun u hu=>leZ_op u C2.out rfl rfl) hw ?_
    refine qw 2 hw ?_
    refine qc rfl func207 (fun u hu=>HIN.out u (EnvX.bel hu)) hw ?_
    refine qw 3 hw ?_
    refine qc rfl func208 (fun u hu=>HCN.out u (EnvX.bel hu)) hw ?_
    refine qw 3 hw ?_
    refine enP fun u3 EX2=>?_
    have HBE:=hD (EnvX.bel EX2.out)
    go_wp2
    go_ret
    exact⟨by rw[HF.out];first|done|rfl,HBE.out⟩
theorem oneCoins: ∀w,(isAgg 39).run Tryz.prog w= .ok false w:=fun w=>by simp[isAgg,run_underlying underlying39]
theorem box_sl{w0 u:World}{M:Boxes}{g n c:Nat}{A:Option Addr}{ty:TypeId}(hu:EnvC w0 M u)(hm:(g,oc #[.slice A n c] ty)∈M):(loadVar 39 ⟨g,0,none⟩).run Tryz.prog u= .ok (.slice A n c) u:=
 run_load_one oneCoins u (box_cell hu hm rfl)
theorem pplace1_any(p:List CoinR)(A:Option Addr)(n c i:Nat)(x:InR)(gp gx:Nat)(w:World)(hl:p.length=n)(hI:okP p)(hA:CoinsIn w w.heap.size A p)(hx:lenI x)(hi:i<n)(hp:w.heap[gp]?=some (.cells #[.slice A n c] 39 (0,0)))(hg:w.heap[gx]?=some (.cells (inA x) 133 (0,0))):
  Rz 238 #[.int .i64 (i:Int), .pointer (some ⟨gp,0,none⟩), .pointer (some ⟨gx,0,none⟩)] w (.bool (!beforeK (keyC (p.getD i noC0)) x)):=by
 unfold Rz
 have HX:=hD hx
 have HI:=hD hi
 have hil:i<p.length:=by rw[hl];exact hi
 obtain⟨ad,rfl,-,hld⟩:=CoinsIn.loads hA hI hil
 have HLD:=hD hld
 have HY:Hid (lenC (p.getD i noC0)):=(getP hI hil).len
 obtain⟨y,hy⟩: ∃y,p.getD i noC0=y:=⟨_,rfl⟩
 rw[hy]at HLD HY
 rw[hy]
 obtain⟨b,hb⟩: ∃b,beforeK (keyC y) x=b:=⟨_,rfl⟩
 have HAH:Hid (∀u,Calls Tryz.prog 225 #[inV (keyC y),inV x] u fun e w'=>e= .returned (.bool b)∧Below u.heap.size u w'):=fun u=>by
  have h:=pahead_any (keyC y) x u HY.out HX.out
  rwa[hb]at h
 rw[hb]
 have E1:Hid (EnvX w w [(gp,oc #[.slice (some ad) n c] 39),(gx,oc (inA x) 133)]):=⟨Below.refl _ _,fun g o hm=>by
  rcases List.mem_cons.1 hm with h|h
  · cases h;exact hp
  · cases mS.1 h;exact hg⟩
 clear hl hI hA hx hi hp hg hil hld hy hb
 go_enter func238,ntmps238
 go_upto_region 1 with (fail)
 refine rgK [0,1,2,3,4,5,6,7,8] 0 E1 rfl fun hw=>?_
 refine qv rfl (fun u hu=>load_any_op u (box_sl hu mH) rfl) hw ?_
 refine qo rfl hw ?_
 refine qv rfl (fun u hu=>idxSl_op underlying39 aggCo.size HI.out u rfl rfl) hw ?_
 refine qv (v:= .pointer (some ((ad.add (i*35)).add 0))) rfl (fun u hu=>fieldCo_op (k:=0) (off:=0) rfl u rfl) hw ?_
 refine qv (v:=inV (keyC y)) rfl (fun u hu=>load_any_op u (by have h:=(HLD.out u (nl hu)).2.1;rwa[show ((ad.add (i*35)).add 0)=ad.add (i*35)by unfold Addr.add;rfl]) rfl) hw ?_
 refine ql rfl (mT mH) HX.out hw ?_
 refine qc rfl func225 (fun u hu=>HAH.out u) hw ?_
 refine qw 2 hw ?_
 refine eH fun u3 EX2=>?_
 have HBE:=hD (EnvX.bel EX2.out)
 go_wp2
 go_ret
 exact⟨rfl,HBE.out⟩
theorem bef_down{p:List CoinR}{x:InR}(hp:idP p)(hx:isId x.tx)(hu:upP p){h k:Nat}(hh:h<p.length)(hk:k≤h)(hb:beforeK (keyC (p.getD h noC0)) x=true):beforeK (keyC (p.getD k noC0)) x=true:=by
 rcases Nat.lt_or_ge k h with g|g
 · exact bef_trans (hp.get (by omega)) (hp.get hh) hx (up_getP hu g hh) hb
 · rw[show k=h by omega];exact hb
theorem bef_up{p:List CoinR}{x:InR}(hp:idP p)(hx:isId x.tx)(hu:upP p){h k:Nat}(hk:h≤k)(hkl:k<p.length)(hb:beforeK (keyC (p.getD h noC0)) x=false):beforeK (keyC (p.getD k noC0)) x=false:=by
 rcases Nat.lt_or_ge h k with g|g
 · cases hc:beforeK (keyC (p.getD k noC0)) x with
   |false=>rfl
   |true=>
    have:=bef_trans (hp.get (by omega)) (hp.get hkl) hx (up_getP hu g hkl) hc
    rw[hb]at this
    cases this
 · rw[show k=h by omega];exact hb
section
variable {a:Act}{dst:Option Tmp}{x y:Operand}{ty:TypeId}{pos:String}{after:Array Edge}{gd:Option (Nat × Bool)}
theorem convIUi_op{m:Nat}(u:World)(hm:m<9223372036854775808)(hx:a.eval x= .int .i64 (m:Int)):
  (execOp a.eval ⟨dst, .convert 3 149 x,ty,pos,after,gd⟩).run Tryz.prog u= .ok (.value (.int .u64 (m:Int))) u:=by
 have hq:IntKind.u64.wrap (m:Int)=(m:Int):=by rw[IntKind.wrap_u64];omega
 unfold execOp
 simp only[hx]
 go_simp
theorem convUiI_op{m:Nat}(u:World)(hm:m<9223372036854775808)(hx:a.eval x= .int .u64 (m:Int)):
  (execOp a.eval ⟨dst, .convert 149 3 x,ty,pos,after,gd⟩).run Tryz.prog u= .ok (.value (.int .i64 (m:Int))) u:=by
 have hq:IntKind.i64.wrap (m:Int)=(m:Int):=by rw[IntKind.wrap_i64];omega
 unfold execOp
 simp only[hx]
 go_simp
theorem mkfun2_op{f:Fn}{p q:Value}(u:World)(hx:a.eval x=p)(hy:a.eval y=q):
  (execOp a.eval ⟨dst, .makeFunc f #[] #[x,y],ty,pos,after,gd⟩).run Tryz.prog u= .ok (.value (.func f #[] #[p,q])) u:=by
 unfold execOp
 simp only[List.map_toArray,List.map_cons,List.map_nil,hx,hy,Instr.makeFunc,Sem.run_bind,Sem.run_pure,Result.andThen_ok]
theorem mkfun1_op{f:Fn}{p:Value}(u:World)(hx:a.eval x=p):
  (execOp a.eval ⟨dst, .makeFunc f #[] #[x],ty,pos,after,gd⟩).run Tryz.prog u= .ok (.value (.func f #[] #[p])) u:=by
 unfold execOp
 simp only[List.map_toArray,List.map_cons,List.map_nil,hx,Instr.makeFunc,Sem.run_bind,Sem.run_pure,Result.andThen_ok]
theorem half_op{m h:Nat}(u:World)(hm:m/2=h)(hx:a.eval x= .int .u64 (m:Int))(hy:a.eval y= .int .u64 1):
  (execOp a.eval ⟨dst, .binOp .shr 149 x y 149,ty,pos,after,gd⟩).run Tryz.prog u= .ok (.value (.int .u64 (h:Int))) u:=by
 have hd:(m:Int) /2=(h:Int):=by omega
 have hd1:(m:Int) /2^ (1:Nat)=(h:Int):=by rw[show ((2:Int)^ (1:Nat))=2 from rfl];exact hd
 unfold execOp
 simp only[hx,hy]
 go_simp
end
theorem psearch_any(p:List CoinR)(A:Option Addr)(n c:Nat)(x:InR)(gp gx:Nat)(w:World)(hl:p.length=n)(hn:n≤1000000)(hI:okP p)(hup:upP p)(hA:CoinsIn w w.heap.size A p)(hx:okIn x)(hp:w.heap[gp]?=some (.cells #[.slice A n c] 39 (0,0)))(hg:w.heap[gx]?=some (.cells (inA x) 133 (0,0))):
  Rz 237 #[.int .i64 (n:Int), .func (.func 238) #[] #[.pointer (some ⟨gp,0,none⟩), .pointer (some ⟨gx,0,none⟩)]] w (.int .i64 (placeP p x:Int)):=by
 unfold Rz
 have HP1:Hid (∀u,Below w.heap.size w u→ ∀i,i<n→Calls Tryz.prog 238 #[.int .i64 (i:Int), .pointer (some ⟨gp,0,none⟩), .pointer (some ⟨gx,0,none⟩)] u fun e w'=>e= .returned (.bool (!beforeK (keyC (p.getD i noC0)) x))∧Below u.heap.size u w'):=fun u hu i hi=>
  pplace1_any p A n c i x gp gx u hl hI (CellsIn.up hA hu) hx.len hi ((hu.block gp (Row.lt (t:=39) hp)).trans hp) ((hu.block gx (Row.lt (t:=133) hg)).trans hg)
 have HL:=hD hl
 have HN:Hid (n≤1000000):=hn
 have HDN:Hid (∀h k,h<n→k≤h→beforeK (keyC (p.getD h noC0)) x=true→beforeK (keyC (p.getD k noC0)) x=true):=fun h k h1 h2 h3=>bef_down hI.id hx.1 hup (by rw[hl];exact h1) h2 h3
 have HUP:Hid (∀h k,h≤k→k<n→beforeK (keyC (p.getD h noC0)) x=false→beforeK (keyC (p.getD k noC0)) x=false):=fun h k h1 h2 h3=>bef_up hI.id hx.1 hup h1 (by rw[hl];exact h2) h3
 have E1:Hid (EnvX w w []):=EnvX.start w
 clear hl hn hI hup hA hx hp hg
 go_enter func237,ntmps237
 go_upto_region 2 with (fail)
 go_loopw [5,6] (fun iv jv u=> ∃i j:Nat,i≤j∧j≤n∧iv= .int .i64 (i:Int)∧jv= .int .i64 (j:Int)∧Hid ((∀k,k<i→beforeK (keyC (p.getD k noC0)) x=true)∧(∀k,j≤k→k<n→beforeK (keyC (p.getD k noC0)) x=false)∧EnvX w u [])) (fun iv jv _=>(intOf jv).toNat- (intOf iv).toNat)
 case atStart=>exact⟨0,n,by omega,by omega,rfl,rfl,(fun k hk=>by omega),(fun k h1 h2=>by omega),E1.out⟩
 case round=>
  obtain⟨i,j,hij,hjn,rfl,rfl,hinv⟩:=hrel
  have H1:=hD hinv.out.1
  have H2:=hD hinv.out.2.1
  have EK:=hD hinv.out.2.2
  clear hinv E1
  by_cases hlt:i<j
  · have C2:Hid (decide ((i:Int)<(j:Int))=true):=decide_eq_true (by omega)
    obtain⟨h,hh⟩: ∃h,(i+j) /2=h:=⟨_,rfl⟩
    have HH:=hD hh
    have HB:Hid (i≤h∧h<j∧j≤n):=⟨by omega,by omega,hjn⟩
    have HAD:Hid (IntKind.i64.wrap ((i:Int)+(j:Int))=((i+j:Nat):Int)):=by show _=_;have:=HN.out;rw[wrapS (by omega)];omega
    have HS:Hid (i+j<9223372036854775808):=by show _<_;have:=HN.out;omega
    have HSH:Hid (h<9223372036854775808):=by show _<_;have:=HN.out;omega
    have HPI:Hid (IntKind.i64.wrap ((h:Int)+1)=((h+1:Nat):Int)):=by show _=_;have:=HN.out;rw[wrapS (by omega)];omega
    obtain⟨b,hb⟩: ∃b,beforeK (keyC (p.getD h noC0)) x=b:=⟨_,rfl⟩
    have HBV:=hD hb
    have HPC:Hid (Rb w 238 #[.int .i64 (h:Int), .pointer (some ⟨gp,0,none⟩), .pointer (some ⟨gx,0,none⟩)] (.bool (!b))):=fun u hu=>by
     have k:=HP1.out u hu h (by omega)
     rwa[hb]at k
    clear hh hb hlt hij hjn
    go_upto_region 2 with (fail)
    refine rgQ [0,1,2] [] EK rfl fun hw=>?_
    refine qw 2 hw ?_
    refine qv rfl (fun u hu=>ltZ_op u C2.out rfl rfl) hw ?_
    refine enP fun u13 EX12=>?_
    go_upto_region 3 with (fail)
    refine rgQ [0,1,2,3,4,5,6] [] EX12 rfl fun hw=>?_
    refine qw 2 hw ?_
    refine qv rfl (fun u hu=>addZ_op u HAD.out rfl rfl) hw ?_
    refine qv (v:= .int .u64 ((i+j:Nat):Int)) rfl (fun u hu=>convIUi_op u HS.out rfl) hw ?_
    refine qv (v:= .int .u64 (h:Int)) rfl (fun u hu=>half_op u HH.out rfl rfl) hw ?_
    refine qv (v:= .int .i64 (h:Int)) rfl (fun u hu=>convUiI_op u HSH.out rfl) hw ?_
    refine qo rfl hw ?_
    refine enP fun u16 EX15=>?_
    cases b with
    |true=>
     go_upto_region 4 with (fail)
     refine rgP [0,1,2,3] [] EX15 rfl ?_;intro hw17 hone
     iterate 2 refine qo rfl ⟨_,hw17⟩ ?_
     (refine wpG_callV (f:=238) (args:= #[.int .i64 (h:Int)]) (caps:= #[.pointer (some ⟨gp,0,none⟩), .pointer (some ⟨gx,0,none⟩)]) (all:= #[.int .i64 (h:Int), .pointer (some ⟨gp,0,none⟩), .pointer (some ⟨gx,0,none⟩)]) (v:= .bool false) rfl rfl rfl rfl rfl func238 rfl rfl (fun u hu=>HPC.out u (EnvX.bel hu)) ?_ hw17;intro K hK;go_big_quiet_op;go_big_quiet_on)
     refine qo rfl ⟨_,hw17⟩ ?_
     clear hone hw17;refine enP fun u19 EX18=>?_
     have H3:Hid (∀k,k<h+1→beforeK (keyC (p.getD k noC0)) x=true):=fun k hk=>HDN.out h k (by have:=HB.out;omega) (by omega) HBV.out
     go_upto_region 5 with (fail)
     refine rgQ [0,1,2] [] EX18 rfl fun hw=>?_
     refine qo rfl hw ?_
     refine qv rfl (fun u hu=>addZ_op u HPI.out rfl rfl) hw ?_
     refine qo rfl hw ?_
     refine enP fun u22 EX21=>?_
     have hb:=HB.out
     go_wp2
     go_roundw
     case rel=>exact⟨h+1,j,by omega,by omega,rfl,rfl,H3.out,H2.out,EX21.out⟩
     case measure=>simp[intOf];omega
    |false=>
     go_upto_region 4 with (fail)
     refine rgP [0,1,2,3] [] EX15 rfl ?_;intro hw17 hone
     iterate 2 refine qo rfl ⟨_,hw17⟩ ?_
     (refine wpG_callV (f:=238) (args:= #[.int .i64 (h:Int)]) (caps:= #[.pointer (some ⟨gp,0,none⟩), .pointer (some ⟨gx,0,none⟩)]) (all:= #[.int .i64 (h:Int), .pointer (some ⟨gp,0,none⟩), .pointer (some ⟨gx,0,none⟩)]) (v:= .bool true) rfl rfl rfl rfl rfl func238 rfl rfl (fun u hu=>HPC.out u (EnvX.bel hu)) ?_ hw17;intro K hK;go_big_quiet_op;go_big_quiet_on)
     refine qo rfl ⟨_,hw17⟩ ?_
     clear hone hw17;refine enP fun u19 EX18=>?_
     have H3:Hid (∀k,h≤k→k<n→beforeK (keyC (p.getD k noC0)) x=false):=fun k h1 h2=>HUP.out h k h1 h2 HBV.out
     go_upto_region 6 with (fail)
     refine rgQ [0,1] [] EX18 rfl fun hw=>?_
     refine qw 2 hw ?_
     refine enP fun u22 EX21=>?_
     have hb:=HB.out
     go_wp2
     go_roundw
     case rel=>exact⟨i,h,by omega,by omega,rfl,rfl,H1.out,H3.out,EX21.out⟩
     case measure=>simp[intOf];omega
  · obtain rfl:i=j:=by omega
    have C2:Hid (decide ((i:Int)<(i:Int))=false):=decide_eq_false (by omega)
    have HF:Hid (placeP p x=i):=placeP_of (by rw[HL.out];exact hjn) H1.out (by rw[HL.out];exact H2.out)
    go_upto_region 2 with (fail)
    refine rgQ [0,1,2] [] EK rfl fun hw=>?_
    refine qw 2 hw ?_
    refine qv rfl (fun u hu=>ltZ_op u C2.out rfl rfl) hw ?_
    refine enP fun u203 EX202=>?_
    go_upto_region 7 with (fail)
    refine rgQ [0,1] [] EX202 rfl fun hw=>?_
    refine qw 2 hw ?_
    refine enP fun u206 EX205=>?_
    have HBE:=hD (EnvX.bel EX205.out)
    go_wp2
    go_ret
    exact⟨by rw[HF.out];first|done|rfl,HBE.out⟩
theorem pplace_any(p:List CoinR)(A:Option Addr)(n c:Nat)(x:InR)(w:World)(hl:p.length=n)(hn:n≤1000000)(hI:okP p)(hup:upP p)(hA:CoinsIn w w.heap.size A p)(hx:okIn x):
  Rz 230 #[.slice A n c,inV x] w (.int .i64 (placeP p x:Int)):=by
 unfold Rz
 have HN63:Hid (n<9223372036854775808):=by show _<_;omega
 have HSE:Hid (∀u,EnvX w u [(w.heap.size+1,oc (inA x) 133),(w.heap.size,oc #[.slice A n c] 39)]→Calls Tryz.prog 237 #[.int .i64 (n:Int), .func (.func 238) #[] #[.pointer (some ⟨w.heap.size,0,none⟩), .pointer (some ⟨w.heap.size+1,0,none⟩)]] u fun e w'=>e= .returned (.int .i64 (placeP p x:Int))∧Below u.heap.size u w'):=fun u hu=>
  psearch_any p A n c x _ _ u hl hn hI hup (CellsIn.up hA hu.bel) hx (hu.box _ _ (mT mH)) (hu.box _ _ mH)
 have E1:Hid (EnvX w ((w.alloc (.cells #[.slice A n c] 39)).alloc (.cells (inA x) 133)) [(w.heap.size+1,oc (inA x) 133),(w.heap.size,oc #[.slice A n c] 39)]):=(EnvX.start w).two _ _
 clear hl hn hI hup hA hx
 generalize placeP p x=k at *
 unfold inV
 go_enter func230,ntmps230
 go_upto_region 1 with (fail)
 generalize (w.alloc (.cells #[.slice A n c] 39)).alloc (.cells (inA x) 133)=W at *
 refine rgQ [0,1,2,3,4] [] E1 rfl fun hw=>?_
 refine qv rfl (fun u hu=>load_any_op u (box_sl hu (mT mH)) rfl) hw ?_
 refine qv rfl (fun u hu=>len_op underlying39 HN63.out u rfl) hw ?_
 refine qv (v:= .func (.func 238) #[] #[.pointer (some ⟨w.heap.size,0,none⟩), .pointer (some ⟨w.heap.size+1,0,none⟩)]) rfl (fun u hu=>mkfun2_op u rfl rfl) hw ?_
 refine qc rfl func237 (fun u hu=>HSE.out u hu) hw ?_
 refine qo rfl hw ?_
 refine enP fun u3 EX2=>?_
 have HBE:=hD (EnvX.bel EX2.out)
 go_wp2
 go_ret
 exact⟨rfl,HBE.out⟩
theorem pfind_any(p:List CoinR)(A:Option Addr)(n c:Nat)(x:InR)(w:World)(hl:p.length=n)(hn:n≤1000)(hnc:n≤c)(hcm:c≤maxLen)(hI:okP p)(hup:upP p)(hA:CoinsIn w w.heap.size A p)(hx:okIn x):
   Rz 235 #[.slice A n c,inV x] w (.int .i64 (findP p x)):=by
 unfold Rz
 have hfp:=findP_place hI.id hx.1 hup
 have hkn:=placeP_le p x
 have HL:=hD hl
 have HPP:=hD hI
 have HAA:=hD hA
 have HN63:Hid (n<9223372036854775808):=by show _<_;unfold maxLen at hcm;omega
 have HX:Hid (lenI x):=hx.len
 have HPL:Hid (Rb w 230 #[.slice A n c,inV x] (.int .i64 (placeP p x:Int))):=fun u hu=>pplace_any p A n c x u hl (by omega) hI hup (CellsIn.up hA hu) hx
 have E1:Hid (EnvX w (w.alloc (.cells (inA x) 133)) [(w.heap.size,oc (inA x) 133)]):=(EnvX.start w).new _
 rw[hl]at hfp hkn
 have HFP:=hD hfp
 obtain⟨k,hk⟩: ∃k,placeP p x=k:=⟨_,rfl⟩
 rw[hk]at HPL HFP hkn
 clear hl hn hnc hcm hI hup hA hx hfp hk
 unfold inV at HPL ⊢
 by_cases hkn2:k=n
 · subst hkn2
   have C3:Hid (decide ((k:Int)=(k:Int))=true):=decide_eq_true rfl
   have HF:Hid (findP p x= -1):=by show _=_;rw[HFP.out,if_neg (by omega)]
   clear hkn
   go_enter func235,ntmps235
   go_upto_region 1 with (fail)
   generalize w.alloc (.cells (inA x) 133)=W at *
   refine rgQ [0,1,2,3] [] E1 rfl fun hw=>?_
   refine qo rfl hw ?_
   refine ql rfl mH HX.out hw ?_
   refine qc rfl func230 (fun u hu=>HPL.out u (EnvX.bel hu)) hw ?_
   refine qo rfl hw ?_
   refine enP fun u3 EX2=>?_
   go_upto_region 2 with (fail)
   refine rgK [0,1,2,3,4,5,6,7,8,9,10,11,12] 0 EX2 rfl fun hw=>?_
   refine qw 2 hw ?_
   refine qv rfl (fun u hu=>len_op underlying39 HN63.out u rfl) hw ?_
   refine qv rfl (fun u hu=>eqlI_op u C3.out rfl rfl) hw ?_
   refine qw 9 hw ?_
   refine eH fun u6 EX5=>?_
   go_upto_region 3 with (fail)
   refine rgQ [0] [] EX5 rfl fun hw=>?_
   refine qo rfl hw ?_
   refine enP fun u9 EX8=>?_
   have HBE:=hD (EnvX.bel EX8.out)
   go_wp2
   go_ret
   exact⟨by rw[HF.out];first|done|rfl,HBE.out⟩
 · have C3:Hid (decide ((k:Int)=(n:Int))=false):=decide_eq_false (by omega)
   have HK:Hid (k<n):=by show _<_;omega
   have hil:k<p.length:=by rw[HL.out];exact HK.out
   obtain⟨ad,rfl,-,hld⟩:=HAA.out.loads HPP.out hil
   have HLD:=hD hld
   have HY:Hid (lenC (p.getD k noC0)):=(getP HPP.out hil).len
   obtain⟨y,hy⟩: ∃y,p.getD k noC0=y:=⟨_,rfl⟩
   rw[hy]at HLD HY HFP
   clear hkn hkn2 hil hld hy
   by_cases he:keyC y=x
   · have HEQ:Hid ((!eqI (keyC y) x)=false):=by show (!decide (keyC y=x))=false;rw[decide_eq_true he];rfl
     have HF:Hid (findP p x=(k:Int)):=by show _=_;rw[HFP.out,if_pos ⟨HK.out,he⟩]
     clear he
     go_enter func235,ntmps235
     go_upto_region 1 with (fail)
     generalize w.alloc (.cells (inA x) 133)=W at *
     refine rgQ [0,1,2,3] [] E1 rfl fun hw=>?_
     refine qo rfl hw ?_
     refine ql rfl mH HX.out hw ?_
     refine qc rfl func230 (fun u hu=>HPL.out u (EnvX.bel hu)) hw ?_
     refine qo rfl hw ?_
     refine enP fun u3 EX2=>?_
     go_upto_region 2 with (fail)
     refine rgK [0,1,2,3,4,5,6,7,8,9,10,11,12] 0 EX2 rfl fun hw=>?_
     refine qw 2 hw ?_
     refine qv rfl (fun u hu=>len_op underlying39 HN63.out u rfl) hw ?_
     refine qv rfl (fun u hu=>eqlI_op u C3.out rfl rfl) hw ?_
     refine qw 3 hw ?_
     refine qv rfl (fun u hu=>idxSl_op underlying39 aggCo.size HK.out u rfl rfl) hw ?_
     refine qv (v:= .pointer (some ((ad.add (k*35)).add 0))) rfl (fun u hu=>fieldCo_op (k:=0) (off:=0) rfl u rfl) hw ?_
     refine qv (v:=inV (keyC y)) rfl (fun u hu=>load_any_op u (by have h:=(HLD.out u (nl hu)).2.1;rwa[show ((ad.add (k*35)).add 0)=ad.add (k*35)by unfold Addr.add;rfl]) rfl) hw ?_
     refine ql rfl mH HX.out hw ?_
     refine qv rfl (fun u hu=>neqIn_op (show lenI (keyC y)from HY.out) HX.out HEQ.out u rfl rfl) hw ?_
     refine qo rfl hw ?_
     refine eH fun u6 EX5=>?_
     go_upto_region 4 with (fail)
     refine rgQ [0,1] [] EX5 rfl fun hw=>?_
     refine qw 2 hw ?_
     refine enP fun u9 EX8=>?_
     have HBE:=hD (EnvX.bel EX8.out)
     go_wp2
     go_ret
     exact⟨by rw[HF.out];first|done|rfl,HBE.out⟩
   · have HEQ:Hid ((!eqI (keyC y) x)=true):=by show (!decide (keyC y=x))=true;rw[decide_eq_false he];rfl
     have HF:Hid (findP p x= -1):=by show _=_;rw[HFP.out,if_neg (fun h=>he h.2)]
     clear he
     go_enter func235,ntmps235
     go_upto_region 1 with (fail)
     generalize w.alloc (.cells (inA x) 133)=W at *
     refine rgQ [0,1,2,3] [] E1 rfl fun hw=>?_
     refine qo rfl hw ?_
     refine ql rfl mH HX.out hw ?_
     refine qc rfl func230 (fun u hu=>HPL.out u (EnvX.bel hu)) hw ?_
     refine qo rfl hw ?_
     refine enP fun u3 EX2=>?_
     go_upto_region 2 with (fail)
     refine rgK [0,1,2,3,4,5,6,7,8,9,10,11,12] 0 EX2 rfl fun hw=>?_
     refine qw 2 hw ?_
     refine qv rfl (fun u hu=>len_op underlying39 HN63.out u rfl) hw ?_
     refine qv rfl (fun u hu=>eqlI_op u C3.out rfl rfl) hw ?_
     refine qw 3 hw ?_
     refine qv rfl (fun u hu=>idxSl_op underlying39 aggCo.size HK.out u rfl rfl) hw ?_
     refine qv (v:= .pointer (some ((ad.add (k*35)).add 0))) rfl (fun u hu=>fieldCo_op (k:=0) (off:=0) rfl u rfl) hw ?_
     refine qv (v:=inV (keyC y)) rfl (fun u hu=>load_any_op u (by have h:=(HLD.out u (nl hu)).2.1;rwa[show ((ad.add (k*35)).add 0)=ad.add (k*35)by unfold Addr.add;rfl]) rfl) hw ?_
     refine ql rfl mH HX.out hw ?_
     refine qv rfl (fun u hu=>neqIn_op (show lenI (keyC y)from HY.out) HX.out HEQ.out u rfl rfl) hw ?_
     refine qo rfl hw ?_
     refine eH fun u6 EX5=>?_
     go_upto_region 3 with (fail)
     refine rgQ [0] [] EX5 rfl fun hw=>?_
     refine qo rfl hw ?_
     refine enP fun u9 EX8=>?_
     have HBE:=hD (EnvX.bel EX8.out)
     go_wp2
     go_ret
     exact⟨by rw[HF.out];first|done|rfl,HBE.out⟩
theorem noIn_size:(inA noIn).size=33:=by decide+kernel
theorem built_in0{tx:List Int}(h:tx.length=32):Tryz.prog.built 133 [(0,idv tx)]=some (inA ⟨tx,0⟩):=by
 have hs:(arrB 32 tx).size=32:=arrB_size _ _ (by omega)
 have hz:=elIn.info
 cases hq:Tryz.prog.info? 133 with
 |none=>rw[hq]at hz;cases hz
 |some it=>
  rw[hq]at hz
  simp only[Option.map_some,Option.some.injEq,Prod.mk.injEq]at hz
  have hp:(Tryz.prog.fieldsOf 133).toList.mapM (fun f=>(Tryz.prog.info? f.type).map fun i=>(f.offset,i.size))=some [(0,32),(32,1)]:=by kernel_rfl
  have hu:Tryz.prog.underlying 133=some (.struct (Tryz.prog.fieldsOf 133)):=by kernel_rfl
  unfold Program.built
  simp only[hq,hu,hz.1,hp]
  obtain⟨r,hr,hl⟩:=fill_seq (place:=(([(0,32),(32,1)]:List (Nat × Nat)).toArray[·]?)) [(0,idv tx)] 0 (inA noIn) ⟨by show some (0,32)=some (0,(arrB 32 tx).size);rw[hs],trivial⟩ (by rw[noIn_size];simp[cellsOfP,idv,Value.cells,hs])
  refine Eq.trans hr ?_
  congr 1
  apply Array.ext'
  rw[hl]
  have e:cellsOfP [(0,idv tx)]=(arrB 32 tx).toList:=by simp[cellsOfP,idv,Value.cells]
  rw[e,List.take_zero,List.nil_append,Nat.zero_add,idA_list h]
  show _=(arrB 32 tx).toList++[.int .i64 0]
  congr 1
theorem phas_any(p:List CoinR)(A:Option Addr)(n c:Nat)(id:List Int)(w:World)(hl:p.length=n)(hn:n≤1000)(hnc:n≤c)(hcm:c≤maxLen)(hI:okP p)(hup:upP p)(hA:CoinsIn w w.heap.size A p)(hb: ∀c∈p,boundC c=true)(hid:isId id):
  Rz 212 #[.slice A n c,idv id] w (.bool (thereP p id)):=by
 unfold Rz
 have hth:=there_place hI.id hid hup (fun x hx=>by have h:=hb x hx;unfold boundC at h;rw[decide_eq_true_eq]at h;exact h.1)
 have hkn:=placeP_le p ⟨id,0⟩
 have HL:=hD hl
 have HPP:=hD hI
 have HAA:=hD hA
 have HN63:Hid (n<9223372036854775808):=by show _<_;unfold maxLen at hcm;omega
 have HID:Hid (id.length=32):=hid.1
 have HPL:Hid (Rb w 230 #[.slice A n c,inV ⟨id,0⟩] (.int .i64 (placeP p ⟨id,0⟩:Int))):=fun u hu=>pplace_any p A n c ⟨id,0⟩ u hl (by omega) hI hup (CellsIn.up hA hu) ⟨hid,show I64 0 by unfold I64;omega⟩
 have E1:Hid (EnvX w (w.alloc (.cells (arrB 32 id) 26)) [(w.heap.size,oc (arrB 32 id) 26)]):=(EnvX.start w).new _
 rw[hl]at hth hkn
 have HTH:=hD hth
 obtain⟨k,hk⟩: ∃k,placeP p ⟨id,0⟩=k:=⟨_,rfl⟩
 rw[hk]at HPL HTH hkn
 clear hl hn hnc hcm hI hup hA hb hid hth hk
 unfold idv
 by_cases hkn2:k<n
 case neg=>
  have C3:Hid (decide ((k:Int)<(n:Int))=false):=decide_eq_false (by omega)
  have HF:Hid (thereP p id=false):=by show _=_;rw[HTH.out,decide_eq_false hkn2];rfl
  clear hkn hkn2
  go_enter func212,ntmps212
  go_upto_region 1 with (fail)
  generalize w.alloc (.cells (arrB 32 id) 26)=W at *
  refine rgQ [0,1,2,3,4] [] E1 rfl fun hw=>?_
  refine qo rfl hw ?_
  refine qv rfl (fun u hu=>load_any_op u (box_idvP hu mH HID.out) rfl) hw ?_
  refine qv (v:=inV ⟨id,0⟩) rfl (fun u hu=>buildA_op u (built_in0 HID.out)) hw ?_
  refine qc rfl func230 (fun u hu=>HPL.out u (EnvX.bel hu)) hw ?_
  refine qo rfl hw ?_
  refine enP fun u3 EX2=>?_
  go_upto_region 2 with (fail)
  refine rgK [0,1,2,3,4,5,6,7,8,9,10,11,12,13,14] 0 EX2 rfl fun hw=>?_
  refine qw 2 hw ?_
  refine qv rfl (fun u hu=>len_op underlying39 HN63.out u rfl) hw ?_
  refine qv rfl (fun u hu=>ltZ_op u C3.out rfl rfl) hw ?_
  refine qw 11 hw ?_
  refine eH fun u6 EX5=>?_
  have HBE:=hD (EnvX.bel EX5.out)
  go_wp2
  go_ret
  exact⟨by rw[HF.out];first|done|rfl,HBE.out⟩
 have C3:Hid (decide ((k:Int)<(n:Int))=true):=decide_eq_true (by omega)
 have HK:Hid (k<n):=hkn2
 have hil:k<p.length:=by rw[HL.out];exact HK.out
 obtain⟨ad,rfl,-,hld⟩:=HAA.out.loads HPP.out hil
 have HLD:=hD hld
 have HY:Hid (lenC (p.getD k noC0)):=(getP HPP.out hil).len
 obtain⟨y,hy⟩: ∃y,p.getD k noC0=y:=⟨_,rfl⟩
 rw[hy]at HLD HY HTH
 obtain⟨b,hb⟩: ∃b,eqL y.tx id=b:=⟨_,rfl⟩
 have HEQ:=hD hb
 have HF:Hid (thereP p id=b):=by show _=_;rw[HTH.out,decide_eq_true HK.out,←hb];rfl
 clear hkn hkn2 hil hld hy hb
 cases b with
 |false=>
  go_enter func212,ntmps212
  go_upto_region 1 with (fail)
  generalize w.alloc (.cells (arrB 32 id) 26)=W at *
  refine rgQ [0,1,2,3,4] [] E1 rfl fun hw=>?_
  refine qo rfl hw ?_
  refine qv rfl (fun u hu=>load_any_op u (box_idvP hu mH HID.out) rfl) hw ?_
  refine qv (v:=inV ⟨id,0⟩) rfl (fun u hu=>buildA_op u (built_in0 HID.out)) hw ?_
  refine qc rfl func230 (fun u hu=>HPL.out u (EnvX.bel hu)) hw ?_
  refine qo rfl hw ?_
  refine enP fun u3 EX2=>?_
  go_upto_region 2 with (fail)
  refine rgK [0,1,2,3,4,5,6,7,8,9,10,11,12,13,14] 0 EX2 rfl fun hw=>?_
  refine qw 2 hw ?_
  refine qv rfl (fun u hu=>len_op underlying39 HN63.out u rfl) hw ?_
  refine qv rfl (fun u hu=>ltZ_op u C3.out rfl rfl) hw ?_
  refine qw 3 hw ?_
  refine qv rfl (fun u hu=>idxSl_op underlying39 aggCo.size HK.out u rfl rfl) hw ?_
  refine qv (v:= .pointer (some ((ad.add (k*35)).add 0))) rfl (fun u hu=>fieldCo_op (k:=0) (off:=0) rfl u rfl) hw ?_
  refine qv (v:= .pointer (some (((ad.add (k*35)).add 0).add 0))) rfl (fun u hu=>fieldIn_op (k:=0) (off:=0) rfl u rfl) hw ?_
  refine qv (v:=idv y.tx) rfl (fun u hu=>load_any_op u (by have h:=(HLD.out u (nl hu)).2.2.1;rwa[show (((ad.add (k*35)).add 0).add 0)=ad.add (k*35)by unfold Addr.add;rfl]) rfl) hw ?_
  refine qv rfl (fun u hu=>load_any_op u (box_idvP hu mH HID.out) rfl) hw ?_
  refine qv rfl (fun u hu=>eqlb_op HY.out HID.out HEQ.out u rfl rfl) hw ?_
  refine qw 2 hw ?_
  refine eH fun u6 EX5=>?_
  have HBE:=hD (EnvX.bel EX5.out)
  go_wp2
  go_ret
  exact⟨by rw[HF.out];first|done|rfl,HBE.out⟩
 |true=>
  go_enter func212,ntmps212
  go_upto_region 1 with (fail)
  generalize w.alloc (.cells (arrB 32 id) 26)=W at *
  refine rgQ [0,1,2,3,4] [] E1 rfl fun hw=>?_
  refine qo rfl hw ?_
  refine qv rfl (fun u hu=>load_any_op u (box_idvP hu mH HID.out) rfl) hw ?_
  refine qv (v:=inV ⟨id,0⟩) rfl (fun u hu=>buildA_op u (built_in0 HID.out)) hw ?_
  refine qc rfl func230 (fun u hu=>HPL.out u (EnvX.bel hu)) hw ?_
  refine qo rfl hw ?_
  refine enP fun u3 EX2=>?_
  go_upto_region 2 with (fail)
  refine rgK [0,1,2,3,4,5,6,7,8,9,10,11,12,13,14] 0 EX2 rfl fun hw=>?_
  refine qw 2 hw ?_
  refine qv rfl (fun u hu=>len_op underlying39 HN63.out u rfl) hw ?_
  refine qv rfl (fun u hu=>ltZ_op u C3.out rfl rfl) hw ?_
  refine qw 3 hw ?_
  refine qv rfl (fun u hu=>idxSl_op underlying39 aggCo.size HK.out u rfl rfl) hw ?_
  refine qv (v:= .pointer (some ((ad.add (k*35)).add 0))) rfl (fun u hu=>fieldCo_op (k:=0) (off:=0) rfl u rfl) hw ?_
  refine qv (v:= .pointer (some (((ad.add (k*35)).add 0).add 0))) rfl (fun u hu=>fieldIn_op (k:=0) (off:=0) rfl u rfl) hw ?_
  refine qv (v:=idv y.tx) rfl (fun u hu=>load_any_op u (by have h:=(HLD.out u (nl hu)).2.2.1;rwa[show (((ad.add (k*35)).add 0).add 0)=ad.add (k*35)by unfold Addr.add;rfl]) rfl) hw ?_
  refine qv rfl (fun u hu=>load_any_op u (box_idvP hu mH HID.out) rfl) hw ?_
  refine qv rfl (fun u hu=>eqlb_op HY.out HID.out HEQ.out u rfl rfl) hw ?_
  refine qw 2 hw ?_
  refine eH fun u6 EX5=>?_
  have HBE:=hD (EnvX.bel EX5.out)
  go_wp2
  go_ret
  exact⟨by rw[HF.out];first|done|rfl,HBE.out⟩
theorem pfull_any(A:Option Addr)(n c:Nat)(A':Option Addr)(m c':Nat)(w:World)(hn:n≤1000000)(hm:m≤1000000):
  Rz 214 #[.slice A n c, .slice A' m c'] w (.bool (decide (48<n+m))):=by
 unfold Rz
 have HN63:Hid (n<9223372036854775808):=by show _<_;omega
 have HM63:Hid (m<9223372036854775808):=by show _<_;omega
 have HAD:Hid (IntKind.i64.wrap ((n:Int)+(m:Int))=((n+m:Nat):Int)):=by show _=_;rw[wrapS (by omega)];omega
 obtain⟨b,hb⟩: ∃b,decide (48<n+m)=b:=⟨_,rfl⟩
 have HB:Hid (decide ((48:Int)<((n+m:Nat):Int))=b):=by show _=_;rw[←hb];exact decide_eq_decide.2 ⟨fun h=>by omega,fun h=>by omega⟩
 have HF:=hD hb
 have E1:Hid (EnvX w w []):=EnvX.start w
 clear hn hm hb
 go_enter func214,ntmps214
 go_upto_region 1 with (fail)
 refine rgQ [0,1,2,3,4,5,6] [] E1 rfl fun hw=>?_
 refine qo rfl hw ?_
 refine qv rfl (fun u hu=>len_op underlying39 HN63.out u rfl) hw ?_
 refine qo rfl hw ?_
 refine qv rfl (fun u hu=>len_op underlying75 HM63.out u rfl) hw ?_
 refine qv rfl (fun u hu=>addZ_op u HAD.out rfl rfl) hw ?_
 refine qv rfl (fun u hu=>gtZ_op u HB.out rfl rfl) hw ?_
 refine qo rfl hw ?_
 refine enP fun u3 EX2=>?_
 have HBE:=hD (EnvX.bel EX2.out)
 go_wp2
 go_ret
 exact⟨by rw[HF.out];first|done|rfl,HBE.out⟩
section
variable {st e:TypeId}{z bytes:Nat}{zero:Value}
theorem run_cutX_lhm(T:ElemT st e z bytes zero)(A:Option Addr)(n c l h m:Nat)(w:World)(h1:l≤h)(h2:h≤m)(h3:m≤c):
  (Instr.sliceAt st (.slice A n c) (some (.int .i64 (l:Int))) (some (.int .i64 (h:Int))) (some (.int .i64 (m:Int)))).run Tryz.prog w= .ok (.slice (cutX z A l m) (h- l) (m- l)) w:=by
 have ht':Tryz.prog.underlying st=some (.slice (Tryz.prog.elem st)):=by rw[T.elem];exact T.und
 rw[run_sliceAt_slice w _ _ _ _ _ ht',run_slice_lhm w st _ _ _ ht' .i64 .i64 .i64 _ _ _ (by omega) (by omega) (by omega) (by omega),T.elem,T.sizeOf]
 simp[Result.andThen,sliced,cutX]
variable {a:Act}{dst:Option Tmp}{x y l h q:Operand}{ty:TypeId}{pos:String}{after:Array Edge}{gd:Option (Nat × Bool)}
theorem cutXlhm_op(T:ElemT st e z bytes zero){A:Option Addr}{n c i j m:Nat}(u:World)(h1:i≤j)(h2:j≤m)(h3:m≤c)(hx:a.eval x= .slice A n c)(hl:a.eval l= .int .i64 (i:Int))(hh:a.eval h= .int .i64 (j:Int))(hq:a.eval q= .int .i64 (m:Int)):
  (execOp a.eval ⟨dst, .slice st x (some l) (some h) (some q),ty,pos,after,gd⟩).run Tryz.prog u= .ok (.value (.slice (cutX z A i m) (j- i) (m- i))) u:=by
 unfold execOp
 simp only[hx,hl,hh,hq,Option.map_some,Option.map_none,Sem.run_bind,Sem.run_pure,Result.andThen_ok,run_cutX_lhm T A n c i j m u h1 h2 h3]
theorem cutXlE_op(T:ElemT st e z bytes zero){A B:Option Addr}{n c j m:Nat}(u:World)(h2:j≤n)(he:cutX z A j c=B)(hm:n- j=m)(hx:a.eval x= .slice A n c)(hh:a.eval l= .int .i64 (j:Int)):
  (execOp a.eval ⟨dst, .slice st x (some l) none none,ty,pos,after,gd⟩).run Tryz.prog u= .ok (.value (.slice B m (c- j))) u:=by
 rw[←he,←hm]
 exact cutXl_op T u h2 hx hh
theorem cutXlhE_op(T:ElemT st e z bytes zero){A B:Option Addr}{n c i j len:Nat}(u:World)(h1:i≤j)(h2:j≤c)(hlen:j- i=len)(he:cutX z A i c=B)(hx:a.eval x= .slice A n c)(hl:a.eval l= .int .i64 (i:Int))(hh:a.eval h= .int .i64 (j:Int)):
  (execOp a.eval ⟨dst, .slice st x (some l) (some h) none,ty,pos,after,gd⟩).run Tryz.prog u= .ok (.value (.slice B len (c- i))) u:=by
 rw[←he]
 exact cutXlh_op T u h1 h2 hlen hx hl hh
def RowIs(e:TypeId)(z g q cap:Nat)(xs:List Value)(M0 M':Boxes):Prop:= ∃cur,M'=(g,oc cur e)::M0∧cur.size=cap*z∧cur.toList.take (q*z)=xs
theorem appIn_op(T:ElemT st e z bytes zero){w0 u:World}{M:Boxes}(M0:Boxes){g k m r cap c:Nat}{ad:Addr}{cur:Array Value}{xs ys:List Value}
  (hu:EnvX w0 u M) (hg:w0.heap.size≤g) (hm:(g,oc cur e)∈M) (hM0: ∀y∈M0,y∈M∧y.1≠g) (hr:k+m=r) (hroom:r≤cap) (hsz:cur.size=cap*z) (hxs:cur.toList.take (k*z)=xs) (hy:ys.length=m*z) (h1: ∀v∈ys,v.oneCell'=true) (hc:SrcAt u ad ys) (hyv:a.eval y= .slice (some ⟨g,0,none⟩) k cap) (hx:a.eval x= .slice (some ad) m c):
  ∃v' u' M',(execOp a.eval ⟨dst, .call {callee:= .builtin .append,args:= #[y,x],argTypes:= #[st,st]},st,pos,after,gd⟩).run Tryz.prog u= .ok (.value v') u'∧EnvX w0 u' M'∧(v'= .slice (some ⟨g,0,none⟩) r cap∧RowIs e z g r cap (xs++ys) M0 M'):=by
 subst hr hxs
 cases hq:Tryz.prog.info? e with
 |none=>have:=T.info;rw[hq]at this;cases this
 |some i=>
  have hi:=T.info
  rw[hq]at hi
  simp only[Option.map_some,Option.some.injEq,Prod.mk.injEq]at hi
  obtain⟨k1,k2,k3⟩:=hi
  have hle:k*z+m*z≤cap*z:=by rw[←Nat.add_mul];exact Nat.mul_le_mul_right _ hroom
  have hrun: ∀ty,(Builtin.append_ #[st,st] ty #[.slice (some ⟨g,0,none⟩) k cap, .slice (some ad) m c]).run Tryz.prog u= .ok (.slice (some ⟨g,0,none⟩) (k+m) cap) (u.setRow g (cur.toList.take (k*z)++ys++cur.toList.drop (k*z+ys.length)).toArray):=fun ty=>by
    have h:=run_append_room (P:=Tryz.prog) (w:=u) st ty e i T.und hq g k cap cur (hu.box _ _ hm) ad m c ys (by rw[k2];exact hy) hc h1 hroom (by rw[k2,hsz,hy];exact hle)
    rw[k2]at h
    exact h
  have hlt:(cur.toList.take (k*z)).length=k*z:=by rw[List.length_take,Array.length_toList,hsz];omega
  refine⟨.slice (some ⟨g,0,none⟩) (k+m) cap,u.setRow g (cur.toList.take (k*z)++ys++cur.toList.drop (k*z+ys.length)).toArray,(g,oc (cur.toList.take (k*z)++ys++cur.toList.drop (k*z+ys.length)).toArray e)::M0,?_,hu.put (cs:=(cur.toList.take (k*z)++ys++cur.toList.drop (k*z+ys.length)).toArray) hg hm (fun x hx=>?_),rfl,_,rfl,?_,?_⟩
  · unfold execOp
    simp only[resolve,invoke,builtin,Sem.run_bind,Sem.run_pure,Result.andThen_ok,List.map_toArray,List.map_cons,List.map_nil,hyv,hx,hrun]
  · rcases List.mem_cons.1 hx with h|h
    · exact .inl h
    · exact .inr (hM0 x h)
  · rw[List.size_toArray,lA,lA,List.length_drop,hlt,hy,Array.length_toList,hsz]
    omega
  · rw[show (k+m)*z=(cur.toList.take (k*z)++ys).length by rw[lA,hlt,hy,Nat.add_mul]]
    exact List.take_left' rfl
theorem clearIn_op(T:ElemT st e z bytes zero){w0 u:World}{M:Boxes}(M0:Boxes){g o n q cap c:Nat}{cur:Array Value}{xs:List Value}
   (hz: ∀v∈zero.cells.toList,v.oneCell'=true) (hu:EnvX w0 u M) (hg:w0.heap.size≤g) (hm:(g,oc cur e)∈M) (hM0: ∀y∈M0,y∈M∧y.1≠g) (hn:0<n) (ho:q*z=o) (hfit:o+n*z≤cap*z) (hsz:cur.size=cap*z) (hxs:cur.toList.take (q*z)=xs) (hx:a.eval x= .slice (some ⟨g,o,none⟩) n c):
   ∃v' u' M',(execOp a.eval ⟨dst, .call {callee:= .builtin .clear,args:= #[x],argTypes:= #[st]},ty,pos,after,gd⟩).run Tryz.prog u= .ok (.value v') u'∧EnvX w0 u' M'∧(v'= .tuple #[]∧RowIs e z g q cap xs M0 M'):=by
 subst ho hxs
 obtain⟨n,rfl⟩: ∃k,n=k+1:=⟨n- 1,by omega⟩
 have hzv:(zeroValue e).run Tryz.prog u= .ok zero u:=by
   cases hq:Tryz.prog.info? e with
   |none=>have:=T.info;rw[hq]at this;cases this
   | some i=>
     have hi:=T.info
     rw[hq]at hi
     simp only[Option.map_some,Option.some.injEq,Prod.mk.injEq]at hi
     simp[zeroValue,typeInfo,hq,hi.1]
 obtain⟨zs,hzs⟩: ∃zs,(Builtin.zeroCells zero.cells (n+1)).toList=zs:=⟨_,rfl⟩
 have hzl:zs.length=(n+1)*z:=by rw[←hzs];simp[Builtin.zeroCells,T.zs]
 have hz1: ∀v∈zs,v.oneCell'=true:=fun v hv=>by
   rw[←hzs]at hv
   simp only[Builtin.zeroCells,Array.toList_map,List.mem_map]at hv
   obtain⟨i,_,rfl⟩:=hv
   have hp:=T.pos
   have hlt:i % zero.cells.size<zero.cells.size:=Nat.mod_lt _ (by rw[T.zs];exact hp)
   rw[getElem!_pos zero.cells _ hlt]
   exact hz _ (by simp)
 have hst:=run_storeCells_at Tryz.prog g (q*z) e zs 0 cur u (hu.box _ _ hm) (by rw[hzl,hsz];omega) hz1
 rw[Nat.add_zero]at hst
 have hrun: ∀ty,(Builtin.clear_ #[st] ty #[.slice (some ⟨g,q*z,none⟩) (n+1) c]).run Tryz.prog u= .ok (.tuple #[]) (u.setRow g (cur.toList.take (q*z)++zs++cur.toList.drop (q*z+zs.length)).toArray):=fun ty=>by
   simp[Builtin.clear_,run_underlying T.und,hzv,hzs,hst]
 have hlt:(cur.toList.take (q*z)).length=q*z:=by rw[List.length_take,Array.length_toList,hsz];omega
 refine⟨.tuple #[],u.setRow g (cur.toList.take (q*z)++zs++cur.toList.drop (q*z+zs.length)).toArray,(g,oc (cur.toList.take (q*z)++zs++cur.toList.drop (q*z+zs.length)).toArray e)::M0,?_,hu.put (cs:=(cur.toList.take (q*z)++zs++cur.toList.drop (q*z+zs.length)).toArray) hg hm (fun x hx=>?_),rfl,_,rfl,?_,?_⟩
 · unfold execOp
   simp only[resolve,invoke,builtin,Sem.run_bind,Sem.run_pure,Result.andThen_ok,List.map_toArray,List.map_cons,List.map_nil,hx,hrun]
 · rcases List.mem_cons.1 hx with h|h
   · exact .inl h
   · exact .inr (hM0 x h)
 · rw[List.size_toArray,lA,lA,List.length_drop,hlt,hzl,Array.length_toList,hsz]
   omega
 · rw[aA]
   exact List.take_left' hlt
end
end Go.Proofs.YtojmeodoenkapaaGreatDoor
