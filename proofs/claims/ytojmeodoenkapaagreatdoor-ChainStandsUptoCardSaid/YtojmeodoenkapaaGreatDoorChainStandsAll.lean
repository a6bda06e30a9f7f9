/-
  PROVED: the law stepladderlaw12.ChainStands answers true for every input whose reading is of bulk at most 1048576, and leaves its arguments as they were.
  Conditions: the two package-level tables of package sha hold at the call what their initialisers lay; the card ties that to the text of the program (a pruned copy of the project: the packages that the roots of this seat load).
-/
import Derived.Test.YtojmeodoenkapaaGreatDoorYk
open Go.Proofs.Tryz
namespace Go.Proofs.YtojmeodoenkapaaGreatDoor
set_option maxRecDepth 20000
set_option maxHeartbeats 8000000
set_option linter.unusedVariables false
set_option linter.unusedSimpArgs false
def leadsT(l:List (List Int))(prev id:List Int):Bool:=decide (prev=id∨id∈l)
open Go.RowKit
theorem peaks_step{l:List Tot}{k:Nat}(hk:k<l.length):peaksT (l.take (k+1))=appT (peaksT (l.take k)) (l.getD k noTot):=by
 rw[List.take_succ_eq_append_getElem hk,peaks_snoc,gD,gE hk]
 rfl
section
variable {a:Act}{dst:Option Tmp}{x y z:Operand}{ty:TypeId}{pos:String}{after:Array Edge}{gd:Option (Nat × Bool)}
theorem eqlW_op{m n:Nat}(hm:m<Big)(hn:n<Big){b:Bool}(hb:eqN m n=b)(u:World)(hx:a.eval x= .agg (wcs m))(hy:a.eval y= .agg (wcs n)):
  (execOp a.eval ⟨dst, .binOp .eql 32 x y 32,ty,pos,after,gd⟩).run Tryz.prog u= .ok (.value (.bool b)) u:=by
 have h:(Op.equalIn 10000 32 (.agg (wcs m)) (.agg (wcs n))).run Tryz.prog u= .ok (eqN m n) u:=run_equal_wide m n hm hn u
 rw[hb]at h
 unfold execOp
 simp only[hx,hy]
 generalize wcs m=cm at *
 generalize wcs n=cn at *
 go_simp
end
def sumI:List Tot→Int
  |[]=>0
  |x::r=>x.n+sumI r
theorem up_n: ∀(r:List Tot)(x:Tot),I64 x.n→(upT x r).n=IntKind.i64.wrap (x.n+sumI r)
 |[],x,h=>by
  show x.n=_
  rw[show x.n+sumI []=x.n by simp[sumI],IntKind.wrap_i64]
  unfold I64 at h
  omega
 |y::r,x,h=>by
  have e:=up_n r (joinT y x) (by show I64 (IntKind.i64.wrap (y.n+x.n));unfold I64;rw[IntKind.wrap_i64];omega)
  show (upT (joinT y x) r).n=_
  rw[e]
  show IntKind.i64.wrap (IntKind.i64.wrap (y.n+x.n)+sumI r)=IntKind.i64.wrap (x.n+(y.n+sumI r))
  simp only[IntKind.wrap_i64]
  omega
theorem carry_n: ∀(r:List Tot)(x:Tot),IntKind.i64.wrap (sumI (carryT x r))=IntKind.i64.wrap (x.n+sumI r)
 |[],x=>rfl
 |y::r,x=>by
  unfold carryT
  split
  · have e:=carry_n r (joinT y x)
    rw[e]
    show IntKind.i64.wrap (IntKind.i64.wrap (y.n+x.n)+sumI r)=IntKind.i64.wrap (x.n+(y.n+sumI r))
    simp only[IntKind.wrap_i64]
    omega
  · rfl
theorem root_n{p:List Tot}(hp: ∀x∈p,I64 x.n):(rootP p).n=IntKind.i64.wrap (sumI p.reverse):=by
 unfold rootP
 cases h:p.reverse with
 |nil=>rw[IntKind.wrap_i64];rfl
 |cons x r=>
  simp only
  rw[up_n r x (hp x (List.mem_reverse.1 (by rw[h];exact List.mem_cons_self ..)))]
  rfl
theorem app_n{p:List Tot}{x:Tot}(hp: ∀y∈p,I64 y.n)(ha: ∀y∈appT p x,I64 y.n)(hx:x.n=1):(rootP (appT p x)).n=IntKind.i64.wrap ((rootP p).n+1):=by
 rw[root_n hp,root_n ha]
 unfold appT
 rw[List.reverse_reverse,carry_n,hx]
 simp only[IntKind.wrap_i64]
 omega
section
variable {l:List BlkR}
theorem ch_prev(h:(checkC l).2=0){k:Nat}(h2:k+1<l.length):(atB l (k+1)).h.prev=idH (atB l k).h:=by
 have g:(atB l (k+1)).h.prev=idH (tipB l (k+1)).b.h:=congrArg Hd.prev (ch_head h h2)
 rw[g,ch_last h (by omega)]
theorem ch_bits(h:(checkC l).2=0): ∀{k:Nat},k<l.length→(atB l k).h.bits=(atB l 0).h.bits
 |0,_=>rfl
 |k+1,h2=>by
  have g0:=congrArg Hd.bits (ch_head h h2)
  have g:(atB l (k+1)).h.bits=(tipB l (k+1)).b.h.bits:=g0
  rw[g,ch_last h (by omega)]
  exact ch_bits h (by omega)
theorem ch_past(h:(checkC l).2=0){k:Nat}(h2:k+1<l.length):(atB l (k+1)).h.past=(rootP (peaksT ((leavesB l).take (k+1)))).h∧(atB l (k+1)).h.work=(rootP (peaksT ((leavesB l).take (k+1)))).w:=by
 have g1:(atB l (k+1)).h.past=(rootP (tipB l (k+1)).p).h:=congrArg Hd.past (ch_head h h2)
 have g2:(atB l (k+1)).h.work=(rootP (tipB l (k+1)).p).w:=congrArg Hd.work (ch_head h h2)
 rw[ch_peaks h (by omega)]at g1 g2
 exact⟨g1,g2⟩
theorem ch_links(h:(checkC l).2=0){k:Nat}(h2:k+1<l.length):(atB l (k+1)).h.links=rootT (leavesL (atB l (k+1)).l):=by
 have g:(atB l (k+1)).h.links=rootT (leavesL (linksK (tipB l (k+1)))):=congrArg Hd.links (ch_head h h2)
 rw[g,(push_ok (ch_push h (k:=k+1) (by omega) h2)).2.2.1]
theorem peaks_nB{q:List Tot}(hq:okTs q)(h1: ∀x∈q,x.n=1): ∀k,k≤q.length→q.length≤1000→(rootP (peaksT (q.take k))).n=(k:Int)
 |0,_,_=>by
  show (noTot.n:Int)=_
  rfl
 |k+1,h2,h3=>by
  have hk:k<q.length:=h2
  have e:=peaks_nB hq h1 k (by omega) h3
  rw[List.take_add_one,gE hk]
  have ho:=(peaks_ok k q hq (by omega)).1
  have hx:q[k]∈q:=List.getElem_mem hk
  unfold peaksT at *
  rw[List.foldl_append]
  show (rootP (appT _ q[k])).n=_
  rw[app_n (fun y hy=>(ho y hy).2.2) (fun y hy=>(app_ok ho (hq _ hx) y hy).2.2) (h1 _ hx),e,IntKind.wrap_i64]
  omega
theorem ch_n(h:(checkC l).2=0){k:Nat}(h2:k≤l.length):(rootP (peaksT ((leavesB l).take k))).n=(k:Int):=by
 have hl:(leavesB l).length=l.length:=List.length_map _
 exact peaks_nB (leaves_okB l).1 (leaves_okB l).2 k (by omega) (by have:=ch_len h;omega)
end
theorem midRowR.blk{m:RowM}(h:midRowR m.r){k:Nat}(hk:k<m.l.length):midBlk (m.l.getD k noBlkM):=by
 rw[midBlk_iff,←rsB_at hk]
 exact h.at (by rw[m.r_len];exact hk)
def idxT:List (List Int)→List Int→Int
  |[],_=> -1
  |x::r,id=>if x=id then 0 else if 0≤idxT r id then idxT r id+1 else-1
theorem idxT_hit: ∀(l:List (List Int))(id:List Int)(k:Nat),k<l.length→(∀j,j<k→l.getD j []≠id)→l.getD k []=id→idxT l id=(k:Int)
 |[],id,k,hk,_,_=>by cases hk
 |x::r,id,0,_,_,h=>by
  unfold idxT
  rw[if_pos (show x=id from h)]
  rfl
 |x::r,id,k+1,hk,hn,h=>by
  unfold idxT
  have hr:=idxT_hit r id k (by simpa using hk) (fun j hj=>hn (j+1) (by omega)) h
  rw[if_neg (show¬x=id from hn 0 (by omega)),hr,if_pos (by omega)]
  rfl
theorem idxT_none: ∀(l:List (List Int))(id:List Int),(∀j,j<l.length→l.getD j []≠id)→idxT l id= -1
 |[],id,_=>rfl
 |x::r,id,hn=>by
  unfold idxT
  have hr:=idxT_none r id (fun j hj=>hn (j+1) (by simpa using hj))
  rw[if_neg (show¬x=id from hn 0 (by simp)),hr,if_neg (by decide)]
theorem idxT_mem: ∀(l:List (List Int))(id:List Int),0≤idxT l id↔id∈l
 |[],id=>⟨fun h=>absurd (show (0:Int)≤ -1 from h) (by decide),fun h=>by cases h⟩
 |x::r,id=>by
  unfold idxT
  by_cases hx:x=id
  · rw[if_pos hx]
    exact⟨fun _=>by rw[hx];exact List.mem_cons_self ..,fun _=>Int.le_refl _⟩
  · rw [if_neg hx]
    have hr:=idxT_mem r id
    by_cases h0:0≤idxT r id
    · rw[if_pos h0]
      exact⟨fun _=>mT (hr.1 h0),fun _=>by omega⟩
    · rw[if_neg h0]
      exact⟨fun h=>absurd h (by decide),fun h=>by
       rcases List.mem_cons.1 h with e|e
       · exact absurd e.symm hx
       · exact absurd (hr.2 e) h0⟩
theorem index_any(l:List (List Int))(id:List Int)(A:Option Addr)(n c:Nat)(w:World)(hl:l.length=n)(hn:n≤1000000)(hI:isIds l)(hA:IdsIn w w.heap.size A l)(hid:isId id):
  Rz 114 #[.slice A n c,idv id] w (.int .i64 (idxT l id)):=by
 unfold Rz
 have HL:=hD hl
 have HIA:=hD (And.intro hI hA)
 have HD:=hD hid
 have E1:Hid (EnvX w (w.alloc (.cells (arrB 32 id) 26)) [(w.heap.size,oc (arrB 32 id) 26)]):=(EnvX.start w).new _
 clear hl hI hA hid
 unfold idv
 go_enter func114,ntmps114
 go_upto_region 2 with (fail)
 generalize w.alloc (.cells (arrB 32 id) 26)=W at *
 go_loopw [8] (fun iv u=> ∃k:Nat,k≤n∧iv= .int .i64 (k:Int)∧Hid ((∀j,j<k→l.getD j []≠id)∧EnvX w u [(w.heap.size,oc (arrB 32 id) 26)])) (fun iv _=>n- (intOf iv).toNat)
 case atStart=>exact⟨0,by omega,rfl,(fun j hj=>by omega),E1.out⟩
 case round=>
  obtain⟨k,hk,rfl,hinv⟩:=hrel
  have HNO:=hD hinv.out.1
  have EK:=hD hinv.out.2
  clear hinv E1
  by_cases hlt:k<n
  · have hlt2:(k:Int)<(n:Int):=by omega
    have hkl:k<l.length:=by rw[HL.out];exact hlt
    obtain⟨ad,rfl,-⟩:=HIA.out.2.load HIA.out.1 hkl
    have HLD:Hid (∀u,Below w.heap.size w u→(loadVar 26 (ad.add (k*32))).run Tryz.prog u= .ok (idv (l.getD k [])) u):=fun u hu=>by
      obtain⟨ad2,e,h⟩:=(HIA.out.2.up hu).load HIA.out.1 hkl
      cases e
      exact h
    have HX:Hid ((l.getD k []).length=32):=(HIA.out.1.get hkl).1
    have HKN:=hD hlt
    by_cases hx:l.getD k []=id
    · have HEQ:Hid (eqL id (l.getD k [])=true):=decide_eq_true hx.symm
      have HR:Hid (idxT l id=(k:Int)):=idxT_hit l id k hkl HNO.out hx
      clear hx hkl hlt
      generalize l.getD k []=x at *
      go_upto_region 4 with (fail)
      refine rgK [0,1,2,3,4,5] 0 EK rfl fun hw=>?_
      refine qv rfl (fun u hu=>load_run_op u (box_load hu mH HD.out.1) rfl) hw ?_
      refine qw 2 hw ?_
      refine qv rfl (fun u hu=>idxSl_op underlying35 aggIdT.size HKN.out u rfl rfl) hw ?_
      refine qv rfl (fun u hu=>load_any_op u (HLD.out u (EnvX.bel hu)) rfl) hw ?_
      refine qv rfl (fun u hu=>eqlb_op HD.out.1 HX.out HEQ.out u rfl rfl) hw ?_
      refine eH fun u53 EX52=>?_
      go_wp2
      go_ret
      exact⟨by rw[HR.out];first|done|rfl,EnvX.bel EX52.out⟩
    · have HEQ:Hid (eqL id (l.getD k [])=false):=decide_eq_false (fun e=>hx e.symm)
      have HN2:Hid (∀j,j<k+1→l.getD j []≠id):=fun j hj=>by
       rcases Nat.lt_or_ge j k with h|h
       · exact HNO.out j h
       · rw[show j=k by omega];exact hx
      clear hx hkl hlt
      generalize l.getD k []=x at *
      go_upto_region 4 with (fail)
      refine rgK [0,1,2,3,4,5] 0 EK rfl fun hw=>?_
      refine qv rfl (fun u hu=>load_run_op u (box_load hu mH HD.out.1) rfl) hw ?_
      refine qw 2 hw ?_
      refine qv rfl (fun u hu=>idxSl_op underlying35 aggIdT.size HKN.out u rfl rfl) hw ?_
      refine qv rfl (fun u hu=>load_any_op u (HLD.out u (EnvX.bel hu)) rfl) hw ?_
      refine qv rfl (fun u hu=>eqlb_op HD.out.1 HX.out HEQ.out u rfl rfl) hw ?_
      refine eH fun u53 EX52=>?_
      go_wp2
      go_roundw
      case rel=>exact⟨k+1,by omega,by go_num,HN2.out,EX52.out⟩
      case measure=>simp[intOf];omega
  · obtain rfl:k=n:=by omega
    have hge: ¬(k:Int)<(k:Int):=by omega
    have HR:Hid (idxT l id= -1):=idxT_none l id (fun j hj=>HNO.out j (by rw[←HL.out];exact hj))
    have HB:=hD (EnvX.bel EK.out)
    clear EK
    go_wp2
    go_ret
    exact⟨by rw[HR.out];first|done|rfl,HB.out⟩
theorem contains_any(l:List (List Int))(id:List Int)(A:Option Addr)(n c:Nat)(w:World)(hl:l.length=n)(hn:n≤1000000)(hI:isIds l)(hA:IdsIn w w.heap.size A l)(hid:isId id):
  Rz 68 #[.slice A n c,idv id] w (.bool (decide (id∈l))):=by
 unfold Rz
 have HIX:Hid (Rb w 114 #[.slice A n c,idv id] (.int .i64 (idxT l id))):=fun u hu=>index_any l id A n c u hl hn hI (hA.up hu) hid
 have HD:=hD hid
 have HB:Hid (decide (0≤idxT l id)=decide (id∈l)):=decide_eq_decide.2 (idxT_mem l id)
 have E1:Hid (EnvX w (w.alloc (.cells (arrB 32 id) 26)) [(w.heap.size,oc (arrB 32 id) 26)]):=(EnvX.start w).new _
 generalize idxT l id=q at *
 clear hl hI hA hid
 unfold idv
 go_enter func68,ntmps68
 go_upto_region 1 with (fail)
 generalize w.alloc (.cells (arrB 32 id) 26)=W at *
 refine rgQ [0,1,2,3,4] [] E1 rfl fun hw=>?_
 refine qo rfl hw ?_
 refine qv rfl (fun u hu=>load_run_op u (box_load hu mH HD.out.1) rfl) hw ?_
 refine qc rfl func114 (fun u hu=>HIX.out u (EnvX.bel hu)) hw ?_
 refine qv rfl (fun u hu=>geZ_op u HB.out rfl rfl) hw ?_
 refine qo rfl hw ?_
 refine enP fun u3 EX2=>?_
 go_wp2
 go_ret
 exact⟨rfl,EnvX.bel EX2.out⟩
theorem link_leads(l:List (List Int))(prev id:List Int)(A:Option Addr)(n c:Nat)(w:World)(hl:l.length=n)(hn:n≤1000000)(hI:isIds l)(hA:IdsIn w w.heap.size A l)(hp:isId prev)(hid:isId id):
   Rz 33 #[.slice A n c,idv prev,idv id] w (.bool (leadsT l prev id)):=by
 unfold Rz
 have HCN:Hid (Rb w 68 #[.slice A n c,idv id] (.bool (decide (id∈l)))):=fun u hu=>contains_any l id A n c u hl hn hI (hA.up hu) hid
 have HP:=hD hp
 have HD:=hD hid
 have E1:Hid (EnvX w ((w.alloc (.cells (arrB 32 prev) 26)).alloc (.cells (arrB 32 id) 26)) [(w.heap.size+1,oc (arrB 32 id) 26),(w.heap.size,oc (arrB 32 prev) 26)]):=(EnvX.start w).two _ _
 clear hl hI hA hp hid
 by_cases hx:prev=id
 · have HEQ:Hid (eqL id prev=true):=decide_eq_true hx.symm
   have HR:Hid (leadsT l prev id=true):=decide_eq_true (.inl hx)
   clear hx
   unfold idv
   go_enter func33,ntmps33
   go_upto_region 1 with (fail)
   generalize (w.alloc (.cells (arrB 32 prev) 26)).alloc (.cells (arrB 32 id) 26)=W at *
   refine rgQ [0,1,2,3,4,5,6,7,8] [] E1 rfl fun hw=>?_
   refine qv rfl (fun u hu=>load_run_op u (box_load hu mH HD.out.1) rfl) hw ?_
   refine qv rfl (fun u hu=>load_run_op u (box_load hu (mT mH) HP.out.1) rfl) hw ?_
   refine qv rfl (fun u hu=>eqlb_op HD.out.1 HP.out.1 HEQ.out u rfl rfl) hw ?_
   refine qw 6 hw ?_
   refine enP fun u3 EX2=>?_
   go_wp2
   go_ret
   exact⟨by rw[HR.out];first|done|rfl,EnvX.bel EX2.out⟩
 · have HEQ:Hid (eqL id prev=false):=decide_eq_false (fun e=>hx e.symm)
   have HR:Hid (leadsT l prev id=decide (id∈l)):=decide_eq_decide.2 ⟨fun h=>h.resolve_left hx,fun h=> .inr h⟩
   clear hx
   generalize decide (id∈l)=b at *
   unfold idv
   go_enter func33,ntmps33
   go_upto_region 1 with (fail)
   generalize (w.alloc (.cells (arrB 32 prev) 26)).alloc (.cells (arrB 32 id) 26)=W at *
   refine rgQ [0,1,2,3,4,5,6,7,8] [] E1 rfl fun hw=>?_
   refine qv rfl (fun u hu=>load_run_op u (box_load hu mH HD.out.1) rfl) hw ?_
   refine qv rfl (fun u hu=>load_run_op u (box_load hu (mT mH) HP.out.1) rfl) hw ?_
   refine qv rfl (fun u hu=>eqlb_op HD.out.1 HP.out.1 HEQ.out u rfl rfl) hw ?_
   refine qw 2 hw ?_
   refine qv rfl (fun u hu=>load_run_op u (box_load hu mH HD.out.1) rfl) hw ?_
   refine qc rfl func68 (fun u hu=>HCN.out u (EnvX.bel hu)) hw ?_
   refine qw 2 hw ?_
   refine enP fun u3 EX2=>?_
   go_wp2
   go_ret
   exact⟨by rw[HR.out];first|done|rfl,EnvX.bel EX2.out⟩
theorem box_totAt{w0 u:World}{M:Boxes}{g k:Nat}{ty:TypeId}{cs:Array Value}{t:Tot}(hu:EnvC w0 M u)(hm:(g,oc cs ty)∈M)(h:len32 t)(hc:(cs.toList.drop k).take 37=totC t):(loadVar 61 ⟨g,k,none⟩).run Tryz.prog u= .ok (totV t) u:=by
 have:=box_agg aggTot (k:=k) hu hm (totC t) (totC_len h) hc
 exact this
theorem fresh_totsS{l:List Tot}{n c:Nat}{A:Option Addr}{N:Boxes}{u:World}(h:FreshR 61 37 n (l.map totC).flatten (.slice A n c) N)(hl:l.length=n)(ho:okTs l)(hN: ∀y∈N,u.heap[y.1]?=some y.2):TotsIn u u.heap.size A l:=
 own_cells (B:=0) (FreshR.own h (by rw[flatT_len ho,hl]) (fun y hy=>⟨Nat.zero_le _,hN y hy⟩))
theorem eqlU32k_opS{a:Act}{dst:Option Tmp}{x y:Operand}{ty:TypeId}{pos:String}{after:Array Edge}{gd:Option (Nat × Bool)}{m k:Int}{b:Bool}(u:World)(hb:decide (m=k)=b)(hx:a.eval x= .int .u32 m)(hy:a.eval y= .int .u32 k):
  (execOp a.eval ⟨dst, .binOp .eql 27 x y 27,ty,pos,after,gd⟩).run Tryz.prog u= .ok (.value (.bool b)) u:=by
 have e:(m==k)=b:=by rw[←hb];by_cases h:m=k<;>simp[h]
 unfold execOp
 simp only[hx,hy]
 go_simp
theorem leaf_at{LS:List Tot}{cur:Array Value}{n:Nat}(ho:okTs LS)(hl:LS.length=n)(hc:cur.toList.take (n*37)=(LS.map totC).flatten){q:Nat}(hq:q<n):(cur.toList.drop (q*37)).take 37=totC (LS.getD q noTot):=by
 have h:=row_get (rowsT ho) (by rw[lM,hl]) hc hq
 rw[Nat.zero_add]at h
 rw[h,gD,List.getElem?_map,gD,gE (by rw[hl];exact hq)]
 rfl
theorem totsAt_ok{l:List Tot}(h:okTs l){q:Nat}(hq:q<l.length):okT (l.getD q noTot):=by
 rw[gD,gE hq]
 exact h _ (List.getElem_mem hq)
theorem law_chstands(H:ChainC)(m:RowM)(i:Int)(w:World)(km:RowOk w m)(mm:midRowR m.r)(hi:I64 i)(ht:Tables w):
  Rz 5 #[rowV m, .int .i64 i] w (.bool true):=by
 unfold Rz
 have HT:=hD ht
 have HH:=hD H
 have HKM:=hD km
 have HL:Hid (m.l.length=m.n):=km.l
 have HN63:Hid (m.n<9223372036854775808):=km.n63
 have HAW:Hid (Rt w 10 #[] (.bool true)):=fun u hu=>chawake_any H u (ht.below (EnvX.bel hu))
 have HMR:=hD mm
 have HI64:=hD hi
 have HFM:Hid (fewB m.l=true→m.l.length≤50):=fun h=>(fewB_mid h).2
 obtain⟨fm,hfm⟩: ∃fm,fewB m.l=fm:=⟨_,rfl⟩
 rw[hfm]at HFM
 have HFW:Hid (Rt w 11 #[.slice m.A m.n m.c] (.bool fm)):=fun u hu=>by have h:=fewrow_any m u (km.up (EnvX.bel hu));rw[hfm]at h;exact h
 have HCK:Hid (∀u,EnvX w u []→Calls Tryz.prog 13 #[.slice m.A m.n m.c] u fun e w'=>(∃t:TipM,e= .returned (.tuple #[tipV t, .int .i64 ((checkC m.r).2:Int)])∧IsTip (checkC m.r).1 t w')∧Below u.heap.size u w'):=fun u hu=>H.check m u (km.up (EnvX.bel hu)) mm (ht.below (EnvX.bel hu))
 obtain⟨rc,ec,hrc⟩: ∃rc ec,checkC m.r=(rc,ec):=⟨_,_,rfl⟩
 rw[hrc]at HCK
 simp only at HCK
 have HCE:=hD hrc
 have E1:Hid (EnvX w w []):=EnvX.start w
 clear ht H km mm hi hfm hrc
 unfold rowV
 go_enter func5,ntmps5
 go_upto_region 1 with (fail)
 refine rgQ [0,1] [] E1 rfl fun hw=>?_
 refine qc rfl func10 (fun u hu=>HAW.out u (nl hu)) hw ?_
 refine qo rfl hw ?_
 refine enP fun u3 EX2=>?_
 go_upto_region 2 with (fail)
 refine rgQ [0,1,2] [] EX2 rfl fun hw=>?_
 refine qo rfl hw ?_
 refine qc rfl func11 (fun u hu=>HFW.out u (nl hu)) hw ?_
 refine qo rfl hw ?_
 refine enP fun u6 EX5=>?_
 go_upto_region 3 with (fail)
 refine rgQ [0] [1,2,3,4,5,6,7] EX5 rfl fun hw=>?_
 refine qo rfl hw ?_
 refine wpG_nil<|(hOp_turn (gd:=none) (R:=fun x M'=> ∃tq N,x= .tuple #[.agg (tipA tq), .int .i64 (ec:Int)]∧M'=N∧KeptB w N (IsTip (rc) tq)∧ ∃vq,IsTip (rc) tq vq) rfl rfl rfl rfl (fun u hu=>OUpon_call (fid:=13) (xs:= #[.tmp 19]) (args:= #[.slice m.A m.n m.c]) rfl func13 rfl rfl u (tip_turn0 (HCK.out u (nl hu)) hu)) ?_)
 rintro _ N8 ⟨t8,_,rfl,rfl,hk8,hv8⟩ he8;intro K' hK';go_big_quiet_op;go_big_quiet_on
 have HT8:=hD hk8
 have HV8:=hD hv8
 have HK8:Hid (lenH t8.b.h):=by obtain⟨v,hv⟩:=HV8.out;exact hv.2.b.h.len
 clear hk8 hv8
 refine phE [2,3,4] [5,6,7] he8 fun hw=>?_
 refine qw 3 hw ?_
 refine wpG_nil<|qn rfl (new_tip _) fun g8 HGg8 he10=>?_
 change lexH _ _ _ _ _ _ ((g8,oc (tipA noTipM) 41)::N8)
 refine(sh rfl HGg8 (infoTip _ (tipA_size HK8.out)) (tip_sizes HK8.out) (tipA_one _) ?_)
 intro he11
 refine phE [7] [] he11 fun hw=>?_
 refine qo rfl hw ?_
 refine enP fun u14 EX13=>?_
 have E5:Hid (EnvX w u14 []):=EnvX.sub EX13.out (fun y hy=>by cases hy)
 clear EX13
 cases fm with
 |false=>
  go_upto_region 4 with (fail)
  refine rgQ [0,1,2,3,4,5,6,7,8,9,10,11,12,13,14,15,16,17,18,19] [] E5 rfl fun hw=>?_
  refine qw 20 hw ?_
  refine enP fun u37 EX36=>?_
  go_upto_region 5 with (fail)
  refine rgQ [0,1] [] EX36 rfl fun hw=>?_
  refine qw 2 hw ?_
  refine enP fun u40 EX39=>?_
  have HBE:=hD (EnvX.bel EX39.out)
  go_wp2
  go_ret
  exact⟨rfl,HBE.out⟩
 | true=>
  cases ec with
  |succ ec=>
   have D8:Hid (decide (((ec+1:Nat):Int)≠0)=true):=decide_eq_true (by omega)
   go_upto_region 4 with (fail)
   refine rgQ [0,1,2,3,4,5,6,7,8,9,10,11,12,13,14,15,16,17,18,19] [] E5 rfl fun hw=>?_
   refine qw 8 hw ?_
   refine qv rfl (fun u hu=>neErr_op u D8.out rfl rfl) hw ?_
   refine qw 11 hw ?_
   refine enP fun u37 EX36=>?_
   go_upto_region 5 with (fail)
   refine rgQ [0,1] [] EX36 rfl fun hw=>?_
   refine qw 2 hw ?_
   refine enP fun u40 EX39=>?_
   have HBE:=hD (EnvX.bel EX39.out)
   go_wp2
   go_ret
   exact⟨rfl,HBE.out⟩
  | zero=>
   have D8:Hid (decide (((0:Nat):Int)≠0)=false):=decide_eq_false (by omega)
   by_cases clow:i<1
   case pos=>
    have D12:Hid (decide (i<1)=true):=decide_eq_true clow
    clear clow
    go_upto_region 4 with (fail)
    refine rgQ [0,1,2,3,4,5,6,7,8,9,10,11,12,13,14,15,16,17,18,19] [] E5 rfl fun hw=>?_
    refine qw 8 hw ?_
    refine qv rfl (fun u hu=>neErr_op u D8.out rfl rfl) hw ?_
    refine qw 3 hw ?_
    refine qv rfl (fun u hu=>ltZ_op u D12.out rfl rfl) hw ?_
    refine qw 7 hw ?_
    refine enP fun u37 EX36=>?_
    go_upto_region 5 with (fail)
    refine rgQ [0,1] [] EX36 rfl fun hw=>?_
    refine qw 2 hw ?_
    refine enP fun u40 EX39=>?_
    have HBE:=hD (EnvX.bel EX39.out)
    go_wp2
    go_ret
    exact⟨rfl,HBE.out⟩
   have D12:Hid (decide (i<1)=false):=decide_eq_false clow
   by_cases cbig:(m.n:Int)≤i
   case pos=>
    have D18:Hid (decide ((m.n:Int)≤i)=true):=decide_eq_true cbig
    clear clow cbig
    go_upto_region 4 with (fail)
    refine rgQ [0,1,2,3,4,5,6,7,8,9,10,11,12,13,14,15,16,17,18,19] [] E5 rfl fun hw=>?_
    refine qw 8 hw ?_
    refine qv rfl (fun u hu=>neErr_op u D8.out rfl rfl) hw ?_
    refine qw 3 hw ?_
    refine qv rfl (fun u hu=>ltZ_op u D12.out rfl rfl) hw ?_
    refine qw 4 hw ?_
    refine qv rfl (fun u hu=>len_op underlying22 HN63.out u rfl) hw ?_
    refine qv rfl (fun u hu=>geZ_op u D18.out rfl rfl) hw ?_
    refine qo rfl hw ?_
    refine enP fun u37 EX36=>?_
    go_upto_region 5 with (fail)
    refine rgQ [0,1] [] EX36 rfl fun hw=>?_
    refine qw 2 hw ?_
    refine enP fun u40 EX39=>?_
    have HBE:=hD (EnvX.bel EX39.out)
    go_wp2
    go_ret
    exact⟨rfl,HBE.out⟩
   have D18:Hid (decide ((m.n:Int)≤i)=false):=decide_eq_false cbig
   go_upto_region 4 with (fail)
   refine rgQ [0,1,2,3,4,5,6,7,8,9,10,11,12,13,14,15,16,17,18,19] [] E5 rfl fun hw=>?_
   refine qw 8 hw ?_
   refine qv rfl (fun u hu=>neErr_op u D8.out rfl rfl) hw ?_
   refine qw 3 hw ?_
   refine qv rfl (fun u hu=>ltZ_op u D12.out rfl rfl) hw ?_
   refine qw 4 hw ?_
   refine qv rfl (fun u hu=>len_op underlying22 HN63.out u rfl) hw ?_
   refine qv rfl (fun u hu=>geZ_op u D18.out rfl rfl) hw ?_
   refine qo rfl hw ?_
   refine enP fun u37 EX36=>?_
   obtain⟨k,rfl⟩: ∃k:Nat,i=((k+1:Nat):Int):=⟨(i- 1).toNat,by omega⟩
   have hkn:k+1<m.n:=by omega
   have HKN:=hD hkn
   have HK1:Hid (k<m.n):=by show _<_;omega
   have HK0:Hid (0<m.n):=by show _<_;omega
   have hkl:k+1<m.l.length:=by rw[HL.out];exact hkn
   have hkl1:k<m.l.length:=by omega
   have hkl0:0<m.l.length:=by omega
   have hkr:k+1<m.r.length:=by rw[m.r_len];exact hkl
   have hch:(checkC m.r).2=0:=by rw[HCE.out]
   have h1:=(ch_height hch hkr).1
   have h2:=ch_prev hch hkr
   have h3:=ch_past hch hkr
   have h4:=ch_n hch (Nat.le_of_lt hkr)
   have h5:=ch_bits hch hkr
   have h6:=ch_links hch hkr
   have h7:=ch_level hch hkr
   have h8:midBlk (m.l.getD (k+1) noBlkM):=HMR.out.blk hkl
   rw[←RowM.at_h hkl]at h1 h2 h3 h5 h7
   rw[←RowM.at_h hkl1]at h2
   rw[←RowM.at_h hkl0]at h5
   rw[←RowM.at_r hkl]at h6
   obtain⟨ad,hA,hla⟩:=HKM.out.loadsAll hkl0
   have HAD:=hD hA
   have HL0:Hid (∀u,EnvX w u []→LoadsB u (ad.add (0*137)) (m.l.getD 0 noBlkM)):=hla 0 hkl0
   have HLX:Hid (∀u,EnvX w u []→LoadsB u (ad.add (k*137)) (m.l.getD k noBlkM)):=hla k hkl1
   have HLY:Hid (∀u,EnvX w u []→LoadsB u (ad.add ((k+1)*137)) (m.l.getD (k+1) noBlkM)):=hla (k+1) hkl
   have HOX:Hid (okHd (m.l.getD k noBlkM).h):=(HKM.out.m.get hkl1).h
   have HKY:Hid (BlkOk w (m.l.getD (k+1) noBlkM)):=HKM.out.m.get hkl
   obtain⟨z0,hz0⟩: ∃z0,m.l.getD 0 noBlkM=z0:=⟨_,rfl⟩
   rw[hz0]at HL0 h5
   obtain⟨x,hx⟩: ∃x,m.l.getD k noBlkM=x:=⟨_,rfl⟩
   rw[hx]at HLX HOX h2
   obtain⟨y,hy⟩: ∃y,m.l.getD (k+1) noBlkM=y:=⟨_,rfl⟩
   rw[hy]at HLY HKY h1 h2 h3 h5 h6 h7 h8
   have h6':y.h.links=rootT (leavesL y.l):=h6
   have HOY:Hid (okHd y.h):=HKY.out.h
   have HYK:Hid (lenH y.h):=HKY.out.h.len
   have HHT:Hid (y.h.height=((k+1:Nat):Int)):=h1
   obtain⟨ip,hip⟩: ∃ip,idH x.h=ip:=⟨_,rfl⟩
   have HIP:Hid (isId ip):=by rw[←hip];exact idH_id _
   rw[hip]at h2
   have HXI:=hD hip
   have HPV:Hid (y.h.prev=ip):=h2
   obtain⟨LS,hLS⟩: ∃LS,leavesB m.r=LS:=⟨_,rfl⟩
   have hlo:=(leaves_okB m.r).1
   have hlen:(leavesB m.r).length=m.n:=by unfold leavesB;rw[lM,m.r_len,HL.out]
   rw[hLS]at h3 h4 hlo hlen
   have HLV:Hid (∀u,EnvX w u []→Calls Tryz.prog 26 #[.slice m.A m.n m.c] u fun e w'=>(∃v,e= .returned v∧w'.ownsRow u.heap.size 61 37 v m.n (LS.map totC).flatten)∧Below u.heap.size u w'):=fun u hu=>by
    have h:=HH.out.leaves m u (HKM.out.up (EnvX.bel hu)) (by have:=HFM.out rfl;omega) (HT.out.below (EnvX.bel hu))
    rw[hLS]at h
    exact h
   have HLO:Hid (okTs LS):=hlo
   have HLN:Hid (LS.length=m.n):=hlen
   have hro:=root_ok (peaks_ok (k+1) LS hlo (by rw[hlen];exact Nat.le_of_lt hkn)).1
   obtain⟨rr,hrr⟩: ∃rr,rootP (peaksT (LS.take (k+1)))=rr:=⟨_,rfl⟩
   rw[hrr]at h3 h4 hro
   have HRR:=hD hrr
   have HRK:Hid (okT rr):=hro
   have HRO:Hid (len32 rr):=hro.len
   have HRN:Hid (rr.n=((k+1:Nat):Int)):=h4
   have HPA:Hid (y.h.past=rr.h):=h3.1
   have HWK:Hid (y.h.work=rr.w):=h3.2
   obtain⟨bt,hbt⟩: ∃bt,y.h.bits=bt:=⟨_,rfl⟩
   rw[hbt]at h5
   have HBT:=hD hbt
   have HB0:Hid (z0.h.bits=bt):=h5.symm
   obtain⟨lk,hlk⟩: ∃lk,y.h.links=lk:=⟨_,rfl⟩
   have HLK:=hD hlk
   have HIK:Hid (isId lk):=by rw[←hlk,h6'];exact root_id (leavesL_ids _)
   have HLE:Hid (Rt w 33 #[.slice y.A1 y.n1 y.c1,idv ip,idv ip] (.bool true)):=fun u hu=>by
    have h:=link_leads y.l ip ip y.A1 y.n1 y.c1 u HKY.out.l1 (by have:=h8.1;have:=HKY.out.l1;omega) HKY.out.o1 (HKY.out.m1.up (EnvX.bel hu)) HIP.out HIP.out
    rw[show leadsT y.l ip ip=true from decide_eq_true (.inl rfl)]at h
    exact h
   have HLR:Hid (Rt w 34 #[.slice y.A1 y.n1 y.c1] (idv lk)):=fun u hu=>by
    have h:=vlink_root y.l y.A1 y.n1 y.c1 u HKY.out.l1 (by have:=h8.1;have:=HKY.out.l1;omega) HKY.out.b1.1 HKY.out.b1.2 HKY.out.o1 (HKY.out.m1.up (EnvX.bel hu)) (HT.out.below (EnvX.bel hu))
    rw[←h6',hlk]at h
    exact h
   obtain⟨lv,hlv⟩: ∃lv,levelH y.h=lv:=⟨_,rfl⟩
   rw[hlv]at h7
   have HLW:=hD hlv
   have DLV:Hid (decide (0≤lv)=true):=decide_eq_true h7
   have HEQ:Hid (∀z:List Int,eqL z z=true):=fun z=>by unfold eqL;exact decide_eq_true rfl
   have HEN:Hid (∀z:Nat,eqN z z=true):=fun z=>by unfold eqN;exact decide_eq_true rfl
   have DNN:Hid (decide ((m.n:Int)≠(m.n:Int))=false):=decide_eq_false (fun h=>h rfl)
   have HM50:Hid (m.n≤50):=by have:=HFM.out rfl;have:=HL.out;show _≤_;omega
   have HSK:Hid (IntKind.i64.wrap (((k+1:Nat):Int) - 1)=(k:Int)):=by have:=HN63.out;show _=_;rw[IntKind.wrap_i64];omega
   clear D8 clow cbig hkn hkl hkl1 hkl0 hkr hch h1 h2 h3 h4 h5 h6 h6' h7 h8 hA hla hz0 hx hy hip hLS hlo hlen hro hrr hbt hlk hlv HFM
   go_upto_region 6 with (fail)
   refine rgQ [0,1,2,3,4] [5,6] EX36 rfl fun hw=>?_
   refine qw 2 hw ?_
   refine qv (v:= .pointer (some (ad.add ((k+1)*137)))) rfl (fun u hu=>by rw[HAD.out];exact idxSl_op (i:=(k+1)) underlying22 aggBlk.size HKN.out u rfl rfl) hw ?_
   refine qv (v:= .pointer (some ((ad.add ((k+1)*137)).add 0))) rfl (fun u hu=>fieldBlk_op (k:=0) (off:=0) (ad:=(ad.add ((k+1)*137))) rfl u rfl) hw ?_
   refine qv rfl (fun u hu=>load_any_op u (HLY.out u (nl hu)).hd rfl) hw ?_
   refine wpG_nil<|qn rfl (new_hd _) fun g9 HG9 he39=>?_
   change lexH _ _ _ _ _ _ [(g9,oc (hdA noHd) 34)]
   refine(sh rfl HG9 (infoHd _ (hdA_size HYK.out)) ((hdA_size (h:=noHd) len_no).trans (hdA_size HYK.out).symm) (hdA_one _) ?_)
   refine fun _=>enL fun u42 EX41=>?_
   go_upto_region 7 with (fail)
   refine rgQ [0] [] EX41 rfl fun hw=>?_
   refine qo rfl hw ?_
   refine enP fun u45 EX44=>?_
   go_upto_region 8 with (fail)
   refine rgQ [0] [1,2] EX44 rfl fun hw=>?_
   refine qo rfl hw ?_
   refine wpG_nil<|qr rfl func26 (fun u hu=>callsR_fresh (HLV.out u (nl hu))) ?_
   rintro x4 N4 hF hf he47
   obtain⟨gl,cl,cur,rfl,hN4,-,-,-,hcur⟩|⟨_,_,h0,_⟩:=hF
   case inr=>exact absurd HK0.out (by rw[h0];exact Nat.not_lt_zero _)
   have HNE:=hD hN4
   have HCU:Hid (∀q,q<m.n→(cur.toList.drop (q*37)).take 37=totC (LS.getD q noTot)):=fun q hq=>leaf_at HLO.out HLN.out hcur hq
   clear hN4 hcur
   clear hf
   refine phE [2] [] he47 fun hw=>?_
   refine qo rfl hw ?_
   refine enP fun u50 EX49=>?_
   have E9:Hid (EnvX w u50 [(gl,oc cur 61),(g9,oc (hdA y.h) 34)]):=by have h:=EX49.out;rw[HNE.out]at h;exact h
   clear EX49 HNE
   go_upto_region 9 with (fail)
   refine rgQ [0,1,2,3,4] [] E9 rfl fun hw=>?_
   refine qo rfl hw ?_
   refine qv rfl (fun u hu=>len_op underlying38 HN63.out u rfl) hw ?_
   refine qo rfl hw ?_
   refine qv rfl (fun u hu=>len_op underlying22 HN63.out u rfl) hw ?_
   refine qv rfl (fun u hu=>neZ_op u DNN.out rfl rfl) hw ?_
   refine enP fun u73 EX72=>?_
   go_upto_region 11 with (fail)
   refine rgQ [0] [] EX72 rfl fun hw=>?_
   refine qo rfl hw ?_
   refine enP fun u76 EX75=>?_
   go_upto_region 12 with (fail)
   go_loopw [10,12] (fun pv iv u=> ∃j:Nat,j≤k+1∧iv= .int .i64 (j:Int)∧Hid (∃NP,FreshR 61 37 (peaksT (LS.take j)).length ((peaksT (LS.take j)).map totC).flatten pv NP∧EnvX w u (NP++[(gl,oc cur 61),(g9,oc (hdA y.h) 34)]))) (fun _ iv _=>k+1- (intOf iv).toNat)
   case atStart=>exact⟨0,by omega,rfl,[], .inr ⟨rfl,rfl,rfl,rfl⟩,EX75.out⟩
   case round=>
    obtain⟨j,hj,rfl,hinv⟩:=hrel
    obtain⟨NP,hF,hE⟩:=hinv.out
    have EK:=hD hE
    clear hinv hE EX75 E9 E5
    have hpo:=peaks_ok j LS HLO.out (by rw[HLN.out];have:=HKN.out;omega)
    obtain⟨P,hP⟩: ∃P,peaksT (LS.take j)=P:=⟨_,rfl⟩
    rw[hP]at hF hpo
    have HP:=hD hP
    obtain⟨A1,c1,rfl,-,-⟩:=FreshR.formC hF
    have HPO:=hD hpo.1
    have HPL:Hid (P.length≤50):=by have:=hpo.2;have:=HKN.out;have:=HM50.out;show _≤_;omega
    have HTP:Hid (∀u,EnvX w u (NP++((gl,oc cur 61)::((g9,oc (hdA y.h) 34)::[])))→TotsIn u u.heap.size A1 P):=fun u hu=>fresh_totsS hF rfl HPO.out (fun y hy=>EnvX.box hu _ _ (mL hy))
    clear hF hpo hP
    by_cases hlt:j<k+1
    · have C2:Hid (decide ((j:Int)<((k+1:Nat):Int))=true):=decide_eq_true (by omega)
      have HJ:=hD hlt
      have HJN:Hid (j<m.n):=by have:=HKN.out;show _<_;omega
      have hjl:j<LS.length:=by rw[HLN.out];exact HJN.out
      have HST:=hD (peaks_step hjl)
      have hlf:=totsAt_ok HLO.out hjl
      have hcl:=HCU.out j HJN.out
      rw[HP.out]at HST
      obtain⟨lf,hl2⟩: ∃lf,LS.getD j noTot=lf:=⟨_,rfl⟩
      rw[hl2]at HST hlf hcl
      have HLL:Hid (len32 lf):=hlf.len
      have HCL:=hD hcl
      have HAP:Hid (∀u,EnvX w u (NP++((gl,oc cur 61)::((g9,oc (hdA y.h) 34)::[])))→Calls Tryz.prog 30 #[.slice A1 P.length c1,totV lf] u fun e w'=>(∃v,e= .returned v∧w'.ownsRow u.heap.size 61 37 v (appT P lf).length ((appT P lf).map totC).flatten)∧Below u.heap.size u w'):=fun u hu=>mapp_any P lf A1 P.length c1 u rfl (by have:=HPL.out;omega) HPO.out hlf (HTP.out u hu) (HT.out.below (EnvX.bel hu))
      have HAJ:Hid (IntKind.i64.wrap ((j:Int)+1)=((j+1:Nat):Int)):=by have:=HJN.out;have:=HN63.out;show _=_;rw[IntKind.wrap_i64];omega
      clear hlf hcl hl2 hlt hj hjl
      go_upto_region 12 with (fail)
      refine rgQ [0,1,2] [] EK rfl fun hw=>?_
      refine qw 2 hw ?_
      refine qv rfl (fun u hu=>ltZ_op u C2.out rfl rfl) hw ?_
      refine enP fun u99 EX98=>?_
      go_upto_region 14 with (fail)
      refine rgQ [0,1,2,3,4] [5,6] EX98 rfl fun hw=>?_
      refine qw 3 hw ?_
      refine qv (v:= .pointer (some ⟨gl,j*37,none⟩)) rfl (fun u hu=>idx0_op (i:=j) underlying38 aggTot.size HJN.out u rfl rfl) hw ?_
      refine qv rfl (fun u hu=>load_any_op u (box_totAt hu (mR mH) HLL.out HCL.out) rfl) hw ?_
      refine wpG_nil<|qr rfl func30 (fun u hu=>callsR_fresh (HAP.out u hu)) ?_
      rintro x5 N5 hF hf he101
      have HF5:=hD hF
      clear hF
      clear hf
      refine phE [6] [] he101 fun hw=>?_
      refine qo rfl hw ?_
      refine enP fun u104 EX103=>?_
      go_upto_region 13 with (fail)
      refine rgQ [0,1,2] [] EX103 rfl fun hw=>?_
      refine qo rfl hw ?_
      refine qv rfl (fun u hu=>addZ_op u HAJ.out rfl rfl) hw ?_
      refine qo rfl hw ?_
      refine enP fun u107 EX106=>?_
      have E20:Hid (EnvX w u107 (N5++[(gl,oc cur 61),(g9,oc (hdA y.h) 34)])):=EnvX.sub EX106.out (fun y hy=>(List.mem_append.1 hy).elim (fun h=>mL h) (fun h=>mR (mR h)))
      have hii:=HJ.out
      have hkn:=HKN.out
      have hn:=HN63.out
      go_wp2
      go_roundw
      case rel=>exact⟨j+1,by omega,rfl,N5,by rw[HST.out];exact HF5.out,E20.out⟩
      case measure=>simp[intOf];omega
    · obtain rfl:j=k+1:=by omega
      have C2:Hid (decide (((k+1:Nat):Int)<((k+1:Nat):Int))=false):=decide_eq_false (by omega)
      have HRT:Hid (∀u,EnvX w u (NP++((gl,oc cur 61)::((g9,oc (hdA y.h) 34)::[])))→Calls Tryz.prog 31 #[.slice A1 P.length c1] u fun e w'=>e= .returned (totV rr)∧Below u.heap.size u w'):=fun u hu=>by
       have h:=mroot_any P A1 P.length c1 u rfl (by have:=HPL.out;omega) HPO.out (HTP.out u hu) (HT.out.below (EnvX.bel hu))
       rw[←HP.out,HRR.out]at h
       rw[←HP.out]
       exact h
      clear hj hlt
      go_upto_region 12 with (fail)
      refine rgQ [0,1,2] [] EK rfl fun hw=>?_
      refine qw 2 hw ?_
      refine qv rfl (fun u hu=>ltZ_op u C2.out rfl rfl) hw ?_
      refine enP fun u379 EX378=>?_
      go_upto_region 15 with (fail)
      refine rgQ [0,1] [2,3] EX378 rfl fun hw=>?_
      refine qo rfl hw ?_
      refine qc rfl func31 (fun u hu=>HRT.out u hu) hw ?_
      refine wpG_nil<|qn rfl (new_tot _) fun g13 HG13 he381=>?_
      change lexH _ _ _ _ _ _ ((g13,oc (totA zTot) 61)::(NP++((gl,oc cur 61)::((g9,oc (hdA y.h) 34)::[]))))
      refine(sh rfl HG13 (infoTot _ (totA_size HRO.out)) (zTot_size.trans (totA_size HRO.out).symm) (totA_one _) ?_)
      refine fun _=>enL fun u384 EX383=>?_
      go_upto_region 16 with (fail)
      refine rgQ [0,1,2,3,4,5,6] [7,8] EX383 rfl fun hw=>?_
      refine qw 2 hw ?_
      refine qv rfl (fun u hu=>subZ_op u HSK.out rfl rfl) hw ?_
      refine qv (v:= .pointer (some (ad.add (k*137)))) rfl (fun u hu=>by rw[HAD.out];exact idxSl_op (i:=k) underlying22 aggBlk.size HK1.out u rfl rfl) hw ?_
      refine qv (v:= .pointer (some ((ad.add (k*137)).add 0))) rfl (fun u hu=>fieldBlk_op (k:=0) (off:=0) (ad:=(ad.add (k*137))) rfl u rfl) hw ?_
      refine qv rfl (fun u hu=>load_any_op u (HLX.out u (nl hu)).hd rfl) hw ?_
      refine qc (args:= #[hdV x.h]) (v:=idv ip) rfl func32 (fun u hu=>by have h:=hid_any x.h u HOX.out (HT.out.below (EnvX.bel hu));rw[HXI.out]at h;exact h) hw ?_
      refine wpG_nil<|qn rfl (new_id _) fun g14 HG14 he386=>?_
      change lexH _ _ _ _ _ _ ((g14,oc (arrB 32 []) 26)::((g13,oc (totA rr) 61)::(NP++((gl,oc cur 61)::((g9,oc (hdA y.h) 34)::[])))))
      refine(sh rfl HG14 (info26 _ (arrB_size _ _ (by rw[HIP.out.1];omega))) ((arrB_size _ _ (by simp)).trans (arrB_size _ _ (by rw[HIP.out.1];omega)).symm) (arrB_one _ _) ?_)
      refine fun _=>enL fun u389 EX388=>?_
      go_upto_region 17 with (fail)
      refine rgK [0,1,2,3,4,5,6,7,8,9,10,11,12,13,14,15,16,17,18,19,20,21,22,23,24,25,26,27,28,29,30,31,32,33,34,35,36,37,38,39,40,41,42,43,44,45,46,47,48,49,50,51,52,53,54,55,56,57,58,59,60,61,62,63,64,65,66,67] 0 EX388 rfl fun hw=>?_
      refine qf rfl hw ?_
      refine qv (v:= .int .i64 ((k+1:Nat):Int)) rfl (fun u hu=>load_any_op u (by have h:=(loads_hd HYK.out (box_list hu (mT (mT (mR (mT mH)))))).2.1;rwa[HHT.out]at h) rfl) hw ?_
      refine qo rfl hw ?_
      refine qv rfl (fun u hu=>eqlI_op u (decide_eq_true rfl) rfl rfl) hw ?_
      refine qw 2 hw ?_
      refine qv (v:=idv ip) rfl (fun u hu=>load_any_op u (by have h:=(loads_hd HYK.out (box_list hu (mT (mT (mR (mT mH)))))).2.2.1;rwa[HPV.out]at h) rfl) hw ?_
      refine qv rfl (fun u hu=>load_run_op u (box_load hu mH HIP.out.1) rfl) hw ?_
      refine qv rfl (fun u hu=>eqlb_op HIP.out.1 HIP.out.1 (HEQ.out _) u rfl rfl) hw ?_
      refine qw 3 hw ?_
      refine qv (v:=idv rr.h) rfl (fun u hu=>load_any_op u (by have h:=(loads_hd HYK.out (box_list hu (mT (mT (mR (mT mH)))))).2.2.2.2.2.1;rwa[HPA.out]at h) rfl) hw ?_
      refine qf rfl hw ?_
      refine ql rfl (mT mH) HRO.out hw ?_
      refine qv rfl (fun u hu=>eqlb_op HRO.out HRO.out (HEQ.out _) u rfl rfl) hw ?_
      refine qw 3 hw ?_
      refine qv (v:= .agg (wcs rr.w)) rfl (fun u hu=>load_any_op u (by have h:=(loads_hd HYK.out (box_list hu (mT (mT (mR (mT mH)))))).2.2.2.2.2.2.1;rwa[HWK.out]at h) rfl) hw ?_
      refine qf rfl hw ?_
      refine ql rfl (mT mH) HRO.out hw ?_
      refine qv (v:= .bool true) rfl (fun u hu=>eqlW_op HRK.out.2.1 HRK.out.2.1 (HEN.out _) u rfl rfl) hw ?_
      refine qw 3 hw ?_
      refine qv (v:= .int .i64 ((k+1:Nat):Int)) rfl (fun u hu=>load_any_op u (by have h:=box_totN hu (mT mH) HRO.out;rwa[HRN.out]at h) rfl) hw ?_
      refine qo rfl hw ?_
      refine qv rfl (fun u hu=>eqlI_op u (decide_eq_true rfl) rfl rfl) hw ?_
      refine qw 3 hw ?_
      refine qv (v:= .int .u32 (bt:Int)) rfl (fun u hu=>load_any_op u (by have h:=(loads_hd HYK.out (box_list hu (mT (mT (mR (mT mH)))))).2.2.2.2.2.2.2.1;rwa[HBT.out]at h) rfl) hw ?_
      refine qo rfl hw ?_
      refine qv (v:= .pointer (some (ad.add (0*137)))) rfl (fun u hu=>by rw[HAD.out];exact idxSl_op (i:=0) underlying22 aggBlk.size HK0.out u rfl rfl) hw ?_
      refine qv (v:= .pointer (some ((ad.add (0*137)).add 0))) rfl (fun u hu=>fieldBlk_op (k:=0) (off:=0) (ad:=(ad.add (0*137))) rfl u rfl) hw ?_
      refine qv (v:= .pointer (some (((ad.add (0*137)).add 0).add 133))) rfl (fun u hu=>fieldHd_op (k:=6) (off:=133) (ad:=(ad.add (0*137)).add 0) rfl u rfl) hw ?_
      refine qv (v:= .int .u32 (bt:Int)) rfl (fun u hu=>load_any_op u (by have h:=(HL0.out u (nl hu)).bits;rwa[HB0.out]at h) rfl) hw ?_
      refine qv (v:= .bool true) rfl (fun u hu=>eqlU32k_opS u (decide_eq_true rfl) rfl rfl) hw ?_
      refine qw 4 hw ?_
      refine qv (v:= .pointer (some (ad.add ((k+1)*137)))) rfl (fun u hu=>by rw[HAD.out];exact idxSl_op (i:=(k+1)) underlying22 aggBlk.size HKN.out u rfl rfl) hw ?_
      refine qv (v:= .pointer (some ((ad.add ((k+1)*137)).add 135))) rfl (fun u hu=>fieldBlk_op (k:=1) (off:=135) (ad:=(ad.add ((k+1)*137))) rfl u rfl) hw ?_
      refine qv rfl (fun u hu=>load_any_op u (HLY.out u (nl hu)).ids rfl) hw ?_
      refine qf rfl hw ?_
      refine qv (v:=idv ip) rfl (fun u hu=>load_any_op u (by have h:=(loads_hd HYK.out (box_list hu (mT (mT (mR (mT mH)))))).2.2.1;rwa[HPV.out]at h) rfl) hw ?_
      refine qv rfl (fun u hu=>load_run_op u (box_load hu mH HIP.out.1) rfl) hw ?_
      refine qc rfl func33 (fun u hu=>HLE.out u (nl hu)) hw ?_
      refine qw 3 hw ?_
      refine qv (v:=idv lk) rfl (fun u hu=>load_any_op u (by have h:=(loads_hd HYK.out (box_list hu (mT (mT (mR (mT mH)))))).2.2.2.1;rwa[HLK.out]at h) rfl) hw ?_
      refine qw 2 hw ?_
      refine qv (v:= .pointer (some (ad.add ((k+1)*137)))) rfl (fun u hu=>by rw[HAD.out];exact idxSl_op (i:=(k+1)) underlying22 aggBlk.size HKN.out u rfl rfl) hw ?_
      refine qv (v:= .pointer (some ((ad.add ((k+1)*137)).add 135))) rfl (fun u hu=>fieldBlk_op (k:=1) (off:=135) (ad:=(ad.add ((k+1)*137))) rfl u rfl) hw ?_
      refine qv rfl (fun u hu=>load_any_op u (HLY.out u (nl hu)).ids rfl) hw ?_
      refine qc rfl func34 (fun u hu=>HLR.out u (nl hu)) hw ?_
      refine qv rfl (fun u hu=>eqlb_op HIK.out.1 HIK.out.1 (HEQ.out _) u rfl rfl) hw ?_
      refine qw 2 hw ?_
      refine ql rfl (mT (mT (mR (mT mH)))) HYK.out hw ?_
      refine qc (args:= #[hdV y.h]) (v:= .int .i64 lv) rfl func35 (fun u hu=>by have h:=hlevel_any y.h u HOY.out (HT.out.below (EnvX.bel hu));rw[HLW.out]at h;exact h) hw ?_
      refine qv rfl (fun u hu=>geZ_op u DLV.out rfl rfl) hw ?_
      refine qw 2 hw ?_
      refine eH fun u392 EX391=>?_
      have HBE:=hD (EnvX.bel EX391.out)
      go_wp2
      go_ret
      exact⟨rfl,HBE.out⟩
end Go.Proofs.YtojmeodoenkapaaGreatDoor
namespace Go.Proofs.YtojmeodoenkapaaGreatDoor.chainStands
set_option maxRecDepth 8000
open Go.ChangeShapes Go.WideShapes Go.ChangeAt Go.RowKit
theorem contract(H:Type)(enc:TypeId × Value→H)(W:World)(base:Nat)(args:Array Value)(ds gs:List (DataW H))(before:List MemPlace)
  (hval: ∀(j:Nat) t v,Tryz.f5.params[j]?=some t→args[j]?=some v→Value.okWide Tryz.prog W .any base t v)
  (hW:DataW.Whole enc Tryz.prog Tryz.f5.params.toList Rows.chainStandsSpec.vars false W args.toList ds gs before) (hL:laidMetH Tryz.prog Rows.chainStandsUptoRow.laid W) (hK:Rows.uptoSmall H (ds++gs)=true):
  Calls Tryz.prog 5 args W fun e W'=> ∃v,e= .returned v∧Rows.chainStandsSpec.post enc Tryz.prog Tryz.f5 false true false false W args v W':=by
 have hW':=hW
 obtain⟨p,q,hA0,hV,rfl,hfz,hnd⟩:=hW
 have hA:DataW.TrodAll enc Tryz.prog W 0 (fun _=>true) true Tryz.f5.params.toList args.toList ds p:=hA0
 rw[Tryz.params5]at hA hval
 obtain⟨v0,vs0,d0,ds0,p0,q0,hargs,rfl,rfl,h0,r0⟩:=trodAll_cons hA
 obtain⟨v1,vs1,d1,ds1,p1,q1,rfl,rfl,rfl,h1,r1⟩:=trodAll_cons r0
 obtain⟨rfl,rfl,rfl⟩:=trodAll_nil r1
 obtain rfl:args= #[v0,v1]:=by cases args;simp_all
 obtain⟨rfl,rfl⟩:=trodVars_none hV
 have hB:Rows.uptoBulkAll [d0,d1]≤1048576:=of_decide_eq_true hK
 have lt0: ∀x∈p0,x.block<W.heap.size:=by obtain⟨m,hm⟩:=h0;exact DataW.trod_lt m _ _ _ hm
 obtain⟨x0,rfl,kx0,mx0⟩:=open_blksB (hval 0 22 v0 rfl rfl) h0 (Nat.le_trans (bulk_part mH) hB)
 obtain⟨x1,rfl,rfl,rfl,wx1⟩:=open_int underlying3 (hval 1 3 v1 rfl rfl) h1
 clear hA0
 refine(law_chstands chainC x0 x1 W kx0 mx0 (bounds_i64 wx1) (tables_of_laid hL)).mono fun e W'⟨he,bel⟩=>?_
 subst he
 exact⟨_,rfl,_,_,_,[],_,[],hW',trodAll_mk1 (shut_bool underlying4 _),(trodAll_cons_mk (Below.trod laidOut (by kernel_rfl) (of_decide_eq_true (by kernel_rfl)) h0 bel lt0) (trodAll_cons_mk (shut_int underlying3 wx1) trodAll_mk0)),rfl,bel.frame _,fun h=>by cases h⟩
def start:Array Value:= #[.slice none 0 0, .int .i64 0]
theorem reads(os:Os){H:Type}(enc:TypeId × Value→H): ∃places,DataW.whole enc Tryz.prog ((laidWorld os).forCall (fun _ _=>0) ⟨#[],start,[]⟩).memory Tryz.f5.params.toList Rows.chainStandsSpec.vars false start.toList 8=some ([.nil, .lit (.int .i64 0)],[],places):=
 ⟨[],by kernel_rfl⟩
theorem lifted(os:Os)(started:os.Started)(H:Type)(enc:TypeId × Value→H)(F:Stop.Interp):
  ReturnsInHanded {} Tryz.checked os 5 .any ((Rows.OpenSpec.upto Rows.chainStandsSpec).preRow enc Tryz.prog Tryz.f5 Rows.chainStandsUptoRow.domain false Rows.chainStandsUptoRow.laid) (((Rows.OpenSpec.upto Rows.chainStandsSpec).at F).post enc Tryz.prog Tryz.f5 false true false false):=by
 obtain⟨places,hx⟩:=reads os enc
 refine returnsInHanded_of_row (C:=Tryz.checked) (s:=Rows.OpenSpec.upto Rows.chainStandsSpec) own started (by kernel_rfl) func5
  (witness_row_at (enc:=enc) (C:=Tryz.checked) false (laidWorld os) start rfl (by kernel_rfl) (by kernel_rfl) (by kernel_rfl)
   (OpenSpec.preRow_of_cond 8 hx (by kernel_rfl) (fun k hk=>by cases hk;kernel_rfl) (by kernel_rfl) (laidMet_of_run' 8 (by kernel_rfl) (by kernel_rfl)))) ?_
 intro W base args ds gs before hval hW _ hcond _ hL _ _
 exact contract H enc W base args ds gs before hval hW hL (hcond _ rfl)
theorem said:Rows.ChainStandsUptoSaid:=
 OpenClaim.holds_of_cond 5 Tryz.f5 rfl rfl rfl rfl rfl rfl rfl ⟨rfl,rfl,rfl,rfl,rfl⟩ rfl rfl rfl rfl rfl (by kernel_rfl) func5 (by kernel_rfl)
  (of_decide_eq_true (by kernel_rfl)) (by unfold Func.isWrapper;first|(rw[if_pos (by decide+kernel)];kernel_rfl)|(rw[if_neg (by decide+kernel)];exact⟨rfl,rfl⟩))
  (fun os started H enc _ F=>by rw[OpenClaim.pre_eq_preRow];exact lifted os started H enc F)
theorem plain(f:FuncId)(fn:Func)(hf:Tryz.pinned.checked.prog.funcNamed "stepladder/stepladderlaw12.ChainStands" =some f)(hfn:Tryz.pinned.checked.prog.funcs[f]?=some fn):
   false=Tryz.pinned.checked.prog.looks []∧ ∀(j:Nat) t,fn.params[j]?=some t→Tryz.pinned.checked.prog.wantsStandIn t=false:=by
 obtain rfl:f=5:=Option.some.inj ((show Tryz.prog.funcNamed "stepladder/stepladderlaw12.ChainStands" =some 5 by kernel_rfl).symm.trans hf)|>.symm
 obtain rfl:fn=Tryz.f5:=(Option.some.inj (func5.symm.trans hfn)).symm
 refine⟨by kernel_rfl,fun j t ht=>?_⟩
 rw[Tryz.params5]at ht
 have hm:t=22∨t=3:=by simpa using Array.mem_of_getElem? ht
 rcases hm with rfl|rfl
 · exact(show Tryz.prog.wantsStandIn 22=false by kernel_rfl)
 · exact(show Tryz.prog.wantsStandIn 3=false by kernel_rfl)
theorem card:Rows.ChainStandsUptoCardSaid:=
 Claim7.holds_tied_plain_at .later [] _ _ _ _ said (fun _ h=>by cases h) (by kernel_rfl) (fun _ h=>by cases h) chainStandsUpto_row_tie rfl ⟨rfl,rfl⟩ (by kernel_rfl) rfl plain (by kernel_rfl)
end Go.Proofs.YtojmeodoenkapaaGreatDoor.chainStands
