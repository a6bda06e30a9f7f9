/- Part of a proof. -/
import Derived.Test.YtojmeodoenkapaaGreatDoorYf
open Go.Proofs.Tryz
namespace Go.Proofs.YtojmeodoenkapaaGreatDoor
set_option maxRecDepth 20000
set_option maxHeartbeats 8000000
set_option linter.unusedVariables false
set_option linter.unusedSimpArgs false
open Go.RowKit
def ptr(g:Nat):Value:= .pointer (some ⟨g,0,none⟩)
def ndV:Value:= .func (.func 116) #[] #[]
def r1V(bl bw bn:Nat):Value:= .func (.func 173) #[] #[ptr bl,ptr bw,ptr bn]
theorem oneFnR: ∀w,(isAgg 186).run Tryz.prog w= .ok false w:=fun w=>by simp[isAgg,run_underlying underlying186]
theorem oneJoin: ∀w,(isAgg 185).run Tryz.prog w= .ok false w:=fun w=>by simp[isAgg,run_underlying underlying185]
def bxL(A:Option Addr)(m c:Nat):Obj:= .cells #[.slice A m c] 35 (0,0)
def bxR(bl bw bn:Nat):Obj:= .cells #[r1V bl bw bn] 186 (0,0)
def bxN:Obj:= .cells #[ndV] 185 (0,0)
def sideF(f n k:Nat):Nat:=if k=0 then f else f+halfT n
def sideN(n k:Nat):Nat:=if k=0 then halfT n else n- halfT n
def sideR(L:List (List Int))(f n k:Nat):List Int:=rootT ((L.drop (sideF f n k)).take (sideN n k))
theorem side_cut{f n k:Nat}(h2:2≤n)(hk:k<2):(cutC f n).toArray.extract (k*2) (k*2+2)=(spanC (sideF f n k) (sideN n k)).toArray:=by
 obtain⟨b1,b2,b3,-⟩:=half_spec h2
 match k,hk with
 |0,_=>rfl
 |1,_=>
  show _=(spanC (f+halfT n) (n- halfT n)).toArray
  have e:f+halfT n+(n- halfT n)=f+n:=by omega
  unfold spanC cutC
  rw[e]
  rfl
theorem side_in{f n k m:Nat}(h2:2≤n)(hk:k<2)(hm:f+n≤m):1≤sideN n k∧sideN n k<n∧sideF f n k+sideN n k≤m:=by
 obtain⟨b1,b2,b3,-⟩:=half_spec h2
 match k,hk with
 |0,_=>exact⟨b1,b2,by show f+halfT n≤m;omega⟩
 |1,_=>exact⟨by show 1≤n- halfT n;omega,by show n- halfT n<n;omega,by show f+halfT n+(n- halfT n)≤m;omega⟩
theorem side_root{L:List (List Int)}{f n:Nat}(h2:2≤n)(hm:f+n≤L.length):nodeT (sideR L f n 0) (sideR L f n 1)=rootT ((L.drop f).take n):=by
 obtain⟨b1,b2,b3,-⟩:=half_spec h2
 have hl:((L.drop f).take n).length=n:=by rw[List.length_take,List.length_drop];omega
 have hc:=root_cut (l:=(L.drop f).take n) (by omega)
 rw[hl]at hc
 rw[hc]
 show nodeT (rootT ((L.drop f).take (halfT n))) (rootT ((L.drop (f+halfT n)).take (n- halfT n)))=_
 rw[List.take_take,Nat.min_eq_left (by omega),List.drop_take,List.drop_drop]
def sumsC(r0 r1:List Int):Nat→Array Value
  |0=>arrB 32 []++arrB 32 []
  |1=>arrB 32 r0++arrB 32 []
  |_=>arrB 32 r0++arrB 32 r1
def pick2(r0 r1:List Int)(k:Nat):List Int:=if k=0 then r0 else r1
theorem z32_len:(arrB 32 []).toList.length=32:=by rw[Array.length_toList];exact arrB_size _ _ (by simp)
theorem idA_cells{r:List Int}(h:r.length=32):(arrB 32 r).toList.length=32:=by rw[Array.length_toList];exact arrB_size _ _ (by omega)
theorem sums_step{r0 r1:List Int}(h0:r0.length=32)(h1:r1.length=32){k:Nat}(hk:k<2):
  (sumsC r0 r1 k).toList.take (k*32)++(arrB 32 (pick2 r0 r1 k)).toList++(sumsC r0 r1 k).toList.drop (k*32+(arrB 32 (pick2 r0 r1 k)).size)=(sumsC r0 r1 (k+1)).toList:=by
 have l0:=idA_cells h0
 have l1:=idA_cells h1
 have lz:=z32_len
 match k,hk with
 |0,_=>
  show (arrB 32 []++arrB 32 []).toList.take 0++(arrB 32 r0).toList++(arrB 32 []++arrB 32 []).toList.drop (0*32+(arrB 32 r0).size)=(arrB 32 r0++arrB 32 []).toList
  rw[arrB_size 32 r0 (by omega),Array.toList_append,Array.toList_append,List.drop_append_of_le_length (by omega),List.drop_of_length_le (by omega)]
  rfl
 |1,_=>
  show (arrB 32 r0++arrB 32 []).toList.take 32++(arrB 32 r1).toList++(arrB 32 r0++arrB 32 []).toList.drop (1*32+(arrB 32 r1).size)=(arrB 32 r0++arrB 32 r1).toList
  rw[arrB_size 32 r1 (by omega),Array.toList_append,Array.toList_append,List.take_append_of_le_length (by omega),tL (by omega),List.drop_of_length_le (by rw[lA];omega),List.append_nil]
theorem sums_size{r0 r1:List Int}(h0:r0.length=32)(h1:r1.length=32)(k:Nat):(sumsC r0 r1 k).size=64:=by
 have z:=arrB_size 32 [] (by simp)
 have s0:=arrB_size 32 r0 (by omega)
 have s1:=arrB_size 32 r1 (by omega)
 match k with
 |0=>simp only[sumsC,Array.size_append,z]
 |1=>simp only[sumsC,Array.size_append,z,s0]
 |_+2=>simp only[sumsC,Array.size_append,s0,s1]
theorem box_idAt{w0 u:World}{M:Boxes}{g k:Nat}{t:TypeId}{cs:Array Value}{r:List Int}(hr:r.length=32)(hu:EnvC w0 M u)(hm:(g,oc cs t)∈M)(h:(cs.toList.drop k).take 32=(arrB 32 r).toList):
  (loadVar 26 ⟨g,k,none⟩).run Tryz.prog u= .ok (idv r) u:=by
 have:=box_agg aggId hu hm (arrB 32 r).toList (idA_cells hr) h
 rw[Array.toArray_toList]at this
 exact this
theorem pair_at{A B:Array Value}(hA:A.toList.length=32)(hB:B.toList.length=32):((A++B).toList.drop (0+0*32)).take 32=A.toList∧((A++B).toList.drop (0+1*32)).take 32=B.toList:=by
 rw[Array.toList_append]
 refine⟨?_,?_⟩
 · rw[List.drop_zero,List.take_append_of_le_length (by omega),tL (by omega)]
 · rw[show 0+1*32=A.toList.length by omega,List.drop_left,tL (by omega)]
theorem new_ids2{dst:Option Tmp}{ty:TypeId}{pos:String}{after:Array Edge}{gd:Option (Nat × Bool)}(a:Act):NewAt Tryz.prog ⟨dst, .alloc 189,ty,pos,after,gd⟩ a (.cells (arrB 32 []++arrB 32 []) 189 (0,0)):=
 new_of (z:= .agg (arrB 32 []++arrB 32 [])) (n:=64) (by kernel_rfl) a
theorem new_span{dst:Option Tmp}{ty:TypeId}{pos:String}{after:Array Edge}{gd:Option (Nat × Bool)}(a:Act):NewAt Tryz.prog ⟨dst, .alloc 188,ty,pos,after,gd⟩ a (.cells #[ii 0,ii 0] 188 (0,0)):=
 new_of (z:= .agg #[ii 0,ii 0]) (n:=2) (by kernel_rfl) a
theorem root1_any(A:Option Addr)(m c:Nat)(L:List (List Int))(bl bw bn:Nat)(hL:isIds L)(hm:L.length=m)(hm6:m≤1000000): ∀(n f:Nat)(w:World),1≤n→f+n≤m→
  EnvX w w [(bl,bxL A m c),(bw,bxR bl bw bn),(bn,bxN)]→IdsIn w w.heap.size A L→Tables w→
  Calls Tryz.prog 173 #[.agg (spanC f n).toArray,ptr bl,ptr bw,ptr bn] w fun e w'=>e= .returned (idv (rootT ((L.drop f).take n)))∧Below w.heap.size w w':=by
 intro n
 induction n using Nat.strongRecOn with
 | _ n ih=>
  intro f w h1 hfm hE hA ht
  have E1:Hid (EnvX w ((w.alloc (.cells (spanC f n).toArray 188)).alloc (.cells (arrB 32 []) 26)) [(w.heap.size+1,oc (arrB 32 []) 26),(w.heap.size,oc (spanC f n).toArray 188),(bl,bxL A m c),(bw,bxR bl bw bn),(bn,bxN)]):=hE.two _ _
  have q1:Hid (((f+n:Nat):Int) - (f:Int)=(n:Int)∧InI (n:Int)):=by show _∧_;unfold InI;omega
  have HLE:Hid (w.heap.size≤w.heap.size+1):=Nat.le_succ _
  unfold ptr
  by_cases hn1:n=1
  · have HB:Hid (decide ((n:Int)=1)=true):=decide_eq_true (by omega)
    have hlt:f<L.length:=by omega
    obtain⟨ad,rfl,hld⟩:=hA.load hL (i:=f) hlt
    have HLD:Hid (∀u,EnvX w u []→(loadVar 26 (ad.add (f*32))).run Tryz.prog u= .ok (idv (L.getD f [])) u):=fun u hu=>by
     obtain⟨ad2,e2,h2⟩:=(hA.up (EnvX.bel hu)).load hL (i:=f) hlt
     cases e2
     exact h2
    have HR:Hid (rootT ((L.drop f).take n)=L.getD f []):=by
     show _=_
     subst hn1
     rw[gD,gE hlt,List.drop_eq_getElem_cons hlt,List.take_succ_cons,List.take_zero,root_one]
     rfl
    have HX:=hD (hL.get hlt).1
    have HFM:Hid (f<m):=by show _<_;omega
    rw[HR.out]
    generalize L.getD f []=x at *
    clear ih hE hA ht hld HR hn1
    go_enter func173,ntmps173
    go_upto_region 1 with (fail)
    rw[zero_cells]
    generalize (w.alloc (.cells (spanC f n).toArray 188)).alloc (.cells (arrB 32 []) 26)=W at *
    refine rgQ [0,1,2,3,4,5] [] E1 rfl fun hw=>?_
    refine qo rfl hw ?_
    refine qv (v:=ii (f+n)) rfl (fun u hu=>load_any_op u (run_load_one oneInt u (box_cell (k:=1) hu (mT mH) rfl)) rfl) hw ?_
    refine qo rfl hw ?_
    refine qv (v:=ii f) rfl (fun u hu=>load_any_op u (run_load_one oneInt u (box_cell (k:=0) hu (mT mH) rfl)) rfl) hw ?_
    refine qv rfl (fun u hu=>sub_op u q1.out.1 q1.out.2 rfl rfl) hw ?_
    refine qv rfl (fun u hu=>eqlI_op u HB.out rfl rfl) hw ?_
    refine enP fun u3 EX2=>?_
    go_upto_region 2 with (fail)
    refine rgQ [0,1,2,3,4] [5] EX2 rfl fun hw=>?_
    refine qv (v:= .slice (some ad) m c) rfl (fun u hu=>load_any_op u (run_load_one oneIds u (box_cell (k:=0) hu (mT (mT mH)) rfl)) rfl) hw ?_
    refine qo rfl hw ?_
    refine qv (v:=ii f) rfl (fun u hu=>load_any_op u (run_load_one oneInt u (box_cell (k:=0) hu (mT mH) rfl)) rfl) hw ?_
    refine qv rfl (fun u hu=>idxSl_op underlying35 aggId.size HFM.out u rfl rfl) hw ?_
    refine qv rfl (fun u hu=>load_any_op u (HLD.out u (nl hu)) rfl) hw ?_
    refine wpG_nil<|(so rfl HLE.out mH (info26 _ (arrB_size _ _ (by rw[HX.out];omega))) ((arrB_size _ _ (by simp)).trans (arrB_size _ _ (by rw[HX.out];omega)).symm) (arrB_one _ _) ?_)
    refine fun _=>enL fun u7 EX6=>?_
    have hsz:Hid ((arrB 32 x).size=32):=arrB_size _ _ (by rw[HX.out];omega)
    have Q0:=hD (EnvX.box EX6.out _ _ mH)
    have HBEL:=hD EX6.out.bel
    clear EX6
    unfold idv
    generalize hcn:arrB 32 x=cn at *
    have HCN:=hD hcn
    clear hcn
    go_wp2_with ((with_reducible refine bodyPost_ret (v:= .agg cn) ?_ ?_ ?_);(exact results_cell_row (p:=5) (ty:=26) results173 _ _ (w.heap.size+1) 26 cn (0,0) _ rfl Q0.out underlying26 rfl (info26 cn hsz.out));(rfl))
    first|exact HBEL.out|exact⟨rfl,HBEL.out⟩|exact⟨by unfold idv;rw[HCN.out],HBEL.out⟩
  · have h2:2≤n:=by omega
    have HB:Hid (decide ((n:Int)=1)=false):=decide_eq_false (by omega)
    have HCUT:=hD (fun u=>cut_any f n u h2 (by omega))
    have HSC:=hD (fun k(hk:k<2)=>side_cut (f:=f) h2 hk)
    have HSI:=hD (fun k(hk:k<2)=>side_in (f:=f) (m:=m) h2 hk hfm)
    have HRID:Hid (∀k,(sideR L f n k).length=32∧ ∀x∈sideR L f n k,0≤x∧x≤255):=fun k=>root_id ((hL.drop _).take _)
    have HCALL:Hid (∀k,k<2→ ∀u,EnvX w u [(bl,bxL A m c),(bw,bxR bl bw bn),(bn,bxN)]→Calls Tryz.prog 173 #[.agg (spanC (sideF f n k) (sideN n k)).toArray,ptr bl,ptr bw,ptr bn] u fun e w'=>e= .returned (idv (sideR L f n k))∧Below u.heap.size u w'):=fun k hk u hu=>by
     obtain⟨s1,s2,s3⟩:=side_in (f:=f) (m:=m) h2 hk hfm
     exact ih (sideN n k) s2 (sideF f n k) u s1 s3 ⟨Below.refl _ _,EnvX.box hu⟩ (hA.up (EnvX.bel hu)) (ht.below (EnvX.bel hu))
    have HND:Hid (Rt w 116 #[idv (sideR L f n 0),idv (sideR L f n 1)] (idv (rootT ((L.drop f).take n)))):=fun u hu=>by
     rw[←side_root h2 (by omega)]
     exact node_any _ _ u (HRID.out 0) (HRID.out 1) (ht.below (EnvX.bel hu))
    have HNL:Hid ((rootT ((L.drop f).take n)).length≤32):=by show _≤_;rw[(root_id ((hL.drop _).take _)).1];omega
    clear ih hE hA ht
    have HST:=hD (fun k(hk:k<2)=>sums_step (HRID.out 0).1 (HRID.out 1).1 hk)
    have HSZ:=hD (sums_size (HRID.out 0).1 (HRID.out 1).1)
    have HPK:Hid (∀k,k<2→sideR L f n k=pick2 (sideR L f n 0) (sideR L f n 1) k):=fun k hk=>by
     match k,hk with
     |0,_=>rfl
     |1,_=>rfl
    go_enter func173,ntmps173
    go_upto_region 1 with (fail)
    rw[zero_cells]
    generalize (w.alloc (.cells (spanC f n).toArray 188)).alloc (.cells (arrB 32 []) 26)=W at *
    refine rgQ [0,1,2,3,4,5] [] E1 rfl fun hw=>?_
    refine qo rfl hw ?_
    refine qv (v:=ii (f+n)) rfl (fun u hu=>load_any_op u (run_load_one oneInt u (box_cell (k:=1) hu (mT mH) rfl)) rfl) hw ?_
    refine qo rfl hw ?_
    refine qv (v:=ii f) rfl (fun u hu=>load_any_op u (run_load_one oneInt u (box_cell (k:=0) hu (mT mH) rfl)) rfl) hw ?_
    refine qv rfl (fun u hu=>sub_op u q1.out.1 q1.out.2 rfl rfl) hw ?_
    refine qv rfl (fun u hu=>eqlI_op u HB.out rfl rfl) hw ?_
    refine enP fun u3 EX2=>?_
    go_upto_region 3 with (fail)
    refine wp_region_Hx (w0:=w) [0] [(w.heap.size+1,oc (arrB 32 []) 26),(w.heap.size,oc (spanC f n).toArray 188),(bl,bxL A m c),(bw,bxR bl bw bn),(bn,bxN)] rfl EX2.out ?_
    refine(hOp_fresh (R:=fun x N=> ∃g,x= .pointer (some ⟨g,0,none⟩)∧N=[(g,oc (arrB 32 []++arrB 32 []) 189)]) (M0:=[(w.heap.size+1,oc (arrB 32 []) 26),(w.heap.size,oc (spanC f n).toArray 188),(bl,bxL A m c),(bw,bxR bl bw bn),(bn,bxN)]) rfl rfl (fun _ h=>h) (fun u hu=>FAt_new (new_ids2 _) u) ?_)
    rintro x N ⟨gs,rfl,rfl⟩ hf he4;intro K' hK';go_big_quiet_op;go_big_quiet_on
    have HGS:=hD (hf _ (mS.2 rfl))
    clear hf
    change lexH _ _ _ _ _ _ [(gs,oc (arrB 32 []++arrB 32 []) 189),(w.heap.size+1,oc (arrB 32 []) 26),(w.heap.size,oc (spanC f n).toArray 188),(bl,bxL A m c),(bw,bxR bl bw bn),(bn,bxN)]
    refine enL fun u6 EX5=>?_
    go_upto_region 4 with (fail)
    refine rgQ [0,1,2] [] EX5 rfl fun hw=>?_
    refine qv rfl (fun u hu=>load_any_op u (box_agg aggSpan (k:=0) hu (mT (mT mH)) (spanC f n) rfl rfl) rfl) hw ?_
    refine qc rfl func174 (fun u hu=>HCUT.out u) hw ?_
    refine qo rfl hw ?_
    refine enP fun u9 EX8=>?_
    go_upto_region 5 with (fail)
    have EI:Hid (EnvX w u9 ((gs,oc (sumsC (sideR L f n 0) (sideR L f n 1) 0) 189)::[(w.heap.size+1,oc (arrB 32 []) 26),(w.heap.size,oc (spanC f n).toArray 188),(bl,bxL A m c),(bw,bxR bl bw bn),(bn,bxN)])):=EX8
    clear EX8
    go_loopw [22] (fun i u=> ∃k:Nat,k≤2∧i= .int .i64 k∧Hid (EnvX w u ((gs,oc (sumsC (sideR L f n 0) (sideR L f n 1) k) 189)::[(w.heap.size+1,oc (arrB 32 []) 26),(w.heap.size,oc (spanC f n).toArray 188),(bl,bxL A m c),(bw,bxR bl bw bn),(bn,bxN)]))) (fun i _=>2- (intOf i).toNat)
    case atStart=>exact⟨0,by omega,rfl,EI⟩
    case round=>
     obtain⟨k,hk,rfl,EK⟩:=hrel
     clear EI
     by_cases hlt:k<2
     · have hk2:(k:Int)<2:=by omega
       have HK:=hD hlt
       have HIX:=hD (HSC.out k hlt)
       have HCK:=hD (HCALL.out k hlt)
       have HSTK:=hD (HST.out k hlt)
       rw[←HPK.out k hlt]at HSTK
       have HRK:=hD (HRID.out k).1
       have HSK:=hD (HSZ.out k)
       have HK32:Hid (k*32+32≤64):=by show _≤_;omega
       go_upto_region 6 with (fail)
       refine rgQ [0,1] [2,3,4] EK rfl fun hw=>?_
       refine qo rfl hw ?_
       refine qv (v:= .agg (spanC (sideF f n k) (sideN n k)).toArray) rfl (fun u hu=>index_op underlying190 aggSpan HK.out HIX.out u rfl rfl) hw ?_
       refine wpG_nil<|(hOp_fresh (R:=fun x N=> ∃g,x= .pointer (some ⟨g,0,none⟩)∧N=[(g,oc #[ii 0,ii 0] 188)]) (M0:=[(gs,oc (sumsC (sideR L f n 0) (sideR L f n 1) k) 189),(w.heap.size+1,oc (arrB 32 []) 26),(w.heap.size,oc (spanC f n).toArray 188),(bl,bxL A m c),(bw,bxR bl bw bn),(bn,bxN)]) rfl rfl (fun _ h=>h) (fun u hu=>FAt_new (new_span _) u) ?_)
       rintro x N ⟨g8,rfl,rfl⟩ hf he11;intro K' hK';go_big_quiet_op;go_big_quiet_on
       have HG8:=hD (hf _ (mS.2 rfl))
       clear hf
       refine phE [3] [4] he11 fun hw=>?_
       refine qo rfl hw ?_
       refine wpG_nil<|(sh (cs:=(spanC (sideF f n k) (sideN n k)).toArray) rfl HG8 info_span rfl (by kernel_rfl) ?_)
       refine fun _=>enL fun u15 EX14=>?_
       go_upto_region 7 with (fail)
       refine rgP [0,1,2,3,4] [5] EX14 rfl ?_;intro hw16 hone
       refine qo rfl ⟨_,hw16⟩ ?_
       refine qv (v:=r1V bl bw bn) rfl (fun u hu=>load_any_op u (run_load_one oneFnR u (box_cell (k:=0) hu (mT (mT (mT (mT (mT mH))))) rfl)) rfl) ⟨_,hw16⟩ ?_
       refine qv rfl (fun u hu=>load_any_op u (box_agg aggSpan (k:=0) hu mH (spanC (sideF f n k) (sideN n k)) rfl rfl) rfl) ⟨_,hw16⟩ ?_
       (refine wpG_callV (f:=173) (args:= #[.agg (spanC (sideF f n k) (sideN n k)).toArray]) (caps:= #[ptr bl,ptr bw,ptr bn]) (all:= #[.agg (spanC (sideF f n k) (sideN n k)).toArray,ptr bl,ptr bw,ptr bn]) (v:=idv (sideR L f n k)) rfl rfl rfl rfl rfl func173 rfl rfl (fun u hu=>HCK.out u (EnvX.sub hu (fun y hy=>mT (mT (mT (mT hy)))))) ?_ hw16;intro K hK;go_big_quiet_op;go_big_quiet_on)
       refine qv (v:= .pointer (some ⟨gs,0+k*32,none⟩)) rfl (fun u hu=>idxArr_op underlying189 aggId.size HK.out u rfl rfl) ⟨_,hw16⟩ ?_
       clear hone hw16
       refine wpG_nil<|(hOp_putAt rfl (gs) (0+k*32) (idv (sideR L f n k)) rfl rfl HGS.out.1 189 (sumsC (sideR L f n 0) (sideR L f n 1) k) (sumsC (sideR L f n 0) (sideR L f n 1) (k+1)) (mT mH) (info26 _ (arrB_size _ _ (by rw[HRK.out];omega))) (by show 0+k*32+(arrB 32 (sideR L f n k)).size≤_;rw[HSK.out,arrB_size _ _ (by rw[HRK.out];omega)];have:=HK32.out;omega) (arrB_one _ _) (by rw[Nat.zero_add];exact HSTK.out) [(gs,oc (sumsC (sideR L f n 0) (sideR L f n 1) (k+1)) 189),(w.heap.size+1,oc (arrB 32 []) 26),(w.heap.size,oc (spanC f n).toArray 188),(bl,bxL A m c),(bw,bxR bl bw bn),(bn,bxN)] (mA ⟨.inl rfl,fun y hy=> .inr ⟨mT (mT hy),HGS.out.2 y hy⟩⟩) ?_)
       refine fun _=>enL fun u19 EX18=>?_
       go_wp2
       go_roundw
       case rel=>exact⟨k+1,by omega,by go_num,EX18⟩
       case measure=>simp[intOf];omega
     · obtain rfl:k=2:=by omega
       have EK2:Hid (EnvX w wr ((gs,oc (arrB 32 (sideR L f n 0)++arrB 32 (sideR L f n 1)) 189)::[(w.heap.size+1,oc (arrB 32 []) 26),(w.heap.size,oc (spanC f n).toArray 188),(bl,bxL A m c),(bw,bxR bl bw bn),(bn,bxN)])):=EK
       have HP2:=hD (pair_at (idA_cells (HRID.out 0).1) (idA_cells (HRID.out 1).1))
       go_upto_region 9 with (fail)
       refine rgP [0,1,2,3,4,5] [6] EK2 rfl ?_;intro hw20 hone
       refine qv (v:=ndV) rfl (fun u hu=>load_any_op u (run_load_one oneJoin u (box_cell (k:=0) hu (mT (mT (mT (mT (mT mH))))) rfl)) rfl) ⟨_,hw20⟩ ?_
       refine qv (v:= .pointer (some ⟨gs,0+0*32,none⟩)) rfl (fun u hu=>idxArr_op (i:=0) underlying189 aggId.size (by decide) u rfl rfl) ⟨_,hw20⟩ ?_
       refine qv rfl (fun u hu=>load_any_op u (box_idAt (HRID.out 0).1 hu mH HP2.out.1) rfl) ⟨_,hw20⟩ ?_
       refine qv (v:= .pointer (some ⟨gs,0+1*32,none⟩)) rfl (fun u hu=>idxArr_op (i:=1) underlying189 aggId.size (by decide) u rfl rfl) ⟨_,hw20⟩ ?_
       refine qv rfl (fun u hu=>load_any_op u (box_idAt (HRID.out 1).1 hu mH HP2.out.2) rfl) ⟨_,hw20⟩ ?_
       (refine wpG_callV (f:=116) (args:= #[idv (sideR L f n 0),idv (sideR L f n 1)]) (caps:= #[]) (all:= #[idv (sideR L f n 0),idv (sideR L f n 1)]) (v:=idv (rootT ((L.drop f).take n))) rfl rfl rfl rfl rfl func116 rfl rfl (fun u hu=>HND.out u (nl hu)) ?_ hw20;intro K hK;go_big_quiet_op;go_big_quiet_on)
       clear hone hw20
       refine wpG_nil<|(so rfl HLE.out (mT mH) (info26 _ (arrB_size _ _ (by exact HNL.out))) ((arrB_size _ _ (by simp)).trans (arrB_size _ _ (by exact HNL.out)).symm) (arrB_one _ _) ?_)
       refine fun _=>enL fun u23 EX22=>?_
       have hsz:Hid ((arrB 32 (rootT ((L.drop f).take n))).size=32):=arrB_size _ _ HNL.out
       have Q0:=hD (EnvX.box EX22.out _ _ mH)
       have HBEL:=hD EX22.out.bel
       clear EX22
       unfold idv
       generalize hcn:arrB 32 (rootT ((L.drop f).take n))=cn at *
       have HCN:=hD hcn
       clear hcn
       go_wp2_with ((with_reducible refine bodyPost_ret (v:= .agg cn) ?_ ?_ ?_);(exact results_cell_row (p:=5) (ty:=26) results173 _ _ (w.heap.size+1) 26 cn (0,0) _ rfl Q0.out underlying26 rfl (info26 cn hsz.out));(rfl))
       first|exact HBEL.out|exact⟨rfl,HBEL.out⟩|exact⟨by unfold idv;rw[HCN.out],HBEL.out⟩
section
variable {a:Act}{dst:Option Tmp}{ty:TypeId}{pos:String}{after:Array Edge}{gd:Option (Nat × Bool)}
theorem mkFunc_op{fn:Fn}{caps:Array Operand}{cs:Array Value}(u:World)(h:caps.toList.map a.eval=cs.toList):
  (execOp a.eval ⟨dst, .makeFunc fn #[] caps,ty,pos,after,gd⟩).run Tryz.prog u= .ok (.value (.func fn #[] cs)) u:=by
 have ha:caps.map a.eval=cs:=by
  apply Array.ext'
  rw[Array.toList_map]
  exact h
 unfold execOp
 simp only[ha,List.map_toArray,List.map_nil,Instr.makeFunc,Sem.run_bind,Sem.run_pure,Result.andThen_ok]
end
theorem new_fnR{dst:Option Tmp}{ty:TypeId}{pos:String}{after:Array Edge}{gd:Option (Nat × Bool)}(a:Act):NewAt Tryz.prog ⟨dst, .alloc 186,ty,pos,after,gd⟩ a (.cells #[.nilFunc] 186 (0,0)):=
 new_of (z:= .nilFunc) (n:=1) (by kernel_rfl) a
theorem info_fnR:(Tryz.prog.info? 186).map (·.size)=some 1:=by kernel_rfl
theorem rootBy_none(A:Option Addr)(c:Nat)(w:World)(ht:Tables w):
  Rz 115 #[ndV, .slice A 0 c] w (idv (rootT [])):=by
 unfold Rz
 rw[root_none]
 obtain⟨W,hW⟩: ∃W,((((w.alloc (.cells #[ndV] 185)).alloc (.cells #[.slice A 0 c] 35)).alloc (.cells (arrB 32 []) 26)).alloc (.cells #[.int .u8 2] 5)).alloc (.cells #[.slice (some ⟨w.heap.size+1+1+1,0,none⟩) 1 1] 100)=W:=⟨_,rfl⟩
 have r0:Row W (w.heap.size+1+1) 26 (arrB 32 []):=by rw[←hW];exact((Row.newAt (by simp) 26 _).alloc _).alloc _
 have r1:Row W (w.heap.size+1+1+1) 5 #[.int .u8 2]:=by rw[←hW];exact(Row.newAt (by simp) 5 _).alloc _
 have r2:Row W (w.heap.size+1+1+1+1) 100 #[.slice (some ⟨w.heap.size+1+1+1,0,none⟩) 1 1]:=by rw[←hW];exact Row.newAt (by simp) 100 _
 have hbW:Below w.heap.size w W:=by rw[←hW];exact(((((Below.refl _ _).alloc (Nat.le_refl _) _).alloc (by simp) _).alloc (by simp;omega) _).alloc (by simp;omega) _).alloc (by simp;omega) _
 have hs:W.heap.size=w.heap.size+5:=by rw[←hW];simp
 have hb0:Bytes W W.heap.size (some ⟨w.heap.size+1+1+1,0,none⟩) [2]:=(own_of_row (B:=0) (n:=1) (xs:=[2]) r1 rfl (Nat.zero_le _) (by decide)).up
 have hP:Parts W W.heap.size (some ⟨w.heap.size+1+1+1+1,0,none⟩) [[2]]:=parts_one (c:=1) (by omega) (by rw[r2.cell];rfl) hb0 (by intro x hx;simp at hx;omega)
 have HOF:=hD (shaof_any (some ⟨w.heap.size+1+1+1+1,0,none⟩) 1 1 [[2]] W rfl hP (by omega) (by simp) (ht.below hbW))
 have HE:Hid ([[2]].flatten=([2]:List Int)):=by show _=_;simp
 have R0:=hD r0
 have HB:=hD hbW
 have hz:Hid ((arrB 32 (sumL [2])).size=32∧(arrB 32 []).size=32∧(arrB 32 (sumL [2])).all (·.oneCell')=true):=⟨arrB_size _ _ (by rw[sumL_len];omega),arrB_size _ _ (by simp),arrB_one _ _⟩
 have HW:=hD hW
 clear r0 r1 r2 hbW hs hb0 hP ht hW
 rw[HE.out]at HOF
 go_enter func115,ntmps115
 go_upto_region 2 with (fail)
 rw[zero_cells]
 go_wp2_with fail
 have HO2:=HOF.out
 rw[←HW.out]at HO2
 refine HO2.mono ?_
 rintro e w2 ⟨rfl,hb2⟩
 rw[HW.out]at hb2
 clear HO2
 have Q0:Hid (w2.heap[w.heap.size+1+1]?=some (.cells (arrB 32 []) 26 (0,0))):=R0.out.below hb2 R0.out.lt
 have HB2:=hD (HB.out.trans (hb2.mono HB.out.size))
 clear hb2 HOF R0 HB
 generalize hcn:arrB 32 (sumL [2])=cn at *
 have HCN:=hD hcn
 clear hcn
 generalize arrB 32 []=zs at *
 go_wp2_with (first
  |((with_reducible refine wpList_store_row (o:=⟨none, .store 26 _ _,_,_,_,_⟩) ?_ 26 (.tmp 4) (.tmp 11) ?_ (w.heap.size+1+1) cn ?_ ?_ 26 zs Q0.out (info26 cn hz.out.1) (by rw[hz.out.1,hz.out.2.1]) hz.out.2.2 ?_);(rfl);(rfl);(rfl);(rfl))
  |((with_reducible refine bodyPost_ret (v:= .agg cn) ?_ ?_ ?_);(exact results_cell_row (p:=4) (ty:=26) results115 _ _ (w.heap.size+1+1) 26 cn (0,0) _ rfl (setRow_heap _ _ zs cn 26 (0,0) Q0.out) underlying26 rfl (info26 cn hz.out.1));(rfl)))
 exact⟨by unfold idv;rw[HCN.out],below_setRow HB2.out (by omega) _⟩
theorem rootBy_some(l:List (List Int))(A:Option Addr)(n c:Nat)(w:World)(hl:l.length=n)(hn:n≤1000000)(hp:1≤n)(hI:isIds l)(hA:IdsIn w w.heap.size A l)(ht:Tables w):
  Rz 115 #[ndV, .slice A n c] w (idv (rootT l)):=by
 unfold Rz
 have HNZ:Hid (decide ((n:Int)=0)=false):=decide_eq_false (by omega)
 have HN:Hid (n<9223372036854775808):=by show _<_;omega
 have HR1:Hid (∀u bl bw bn,EnvX w u [(bw,bxR bl bw bn),(bn,bxN),(bl,bxL A n c)]→Calls Tryz.prog 173 #[.agg #[ii 0,ii n],ptr bl,ptr bw,ptr bn] u fun e w'=>e= .returned (idv (rootT l))∧Below u.heap.size u w'):=fun u bl bw bn hu=>by
  have h:=root1_any A n c l bl bw bn hI hl hn n 0 u hp (by omega) ⟨Below.refl _ _,fun g o hm=>by
   rcases List.mem_cons.1 hm with e|hm
   · cases e;exact EnvX.box hu _ _ (mT (mT mH))
   rcases List.mem_cons.1 hm with e|hm
   · cases e;exact EnvX.box hu _ _ mH
   · cases mS.1 hm;exact EnvX.box hu _ _ (mT mH)⟩ (hA.up (EnvX.bel hu)) (ht.below (EnvX.bel hu))
  have e:spanC 0 n=[ii 0,ii n]:=by unfold spanC;rw[Nat.zero_add]
  rw[e,List.drop_zero,tL (by omega)]at h
  exact h
 have HNL:Hid ((rootT l).length≤32):=by show _≤_;rw[(root_id hI).1];omega
 have HLE:Hid (w.heap.size≤w.heap.size+1+1):=by show _≤_;omega
 have E1:Hid (EnvX w (((w.alloc (.cells #[ndV] 185)).alloc (.cells #[.slice A n c] 35)).alloc (.cells (arrB 32 []) 26)) [(w.heap.size+1+1,oc (arrB 32 []) 26),(w.heap.size+1,bxL A n c),(w.heap.size,bxN)]):=by
  have h:=((EnvX.start w).two bxN (bxL A n c)).new (oc (arrB 32 []) 26)
  have hs:((w.alloc bxN).alloc (bxL A n c)).heap.size=w.heap.size+1+1:=by simp
  rw[hs]at h
  exact h
 clear hI hA ht
 go_enter func115,ntmps115
 go_upto_region 1 with (fail)
 rw[zero_cells]
 change Code.wp _ _ _ _ (((w.alloc (.cells #[ndV] 185)).alloc (.cells #[.slice A n c] 35)).alloc (.cells (arrB 32 []) 26))
 generalize ((w.alloc (.cells #[ndV] 185)).alloc (.cells #[.slice A n c] 35)).alloc (.cells (arrB 32 []) 26)=W at *
 refine rgQ [0,1,2] [] E1 rfl fun hw=>?_
 refine qv (v:= .slice A n c) rfl (fun u hu=>load_any_op u (run_load_one oneIds u (box_cell (k:=0) hu (mT mH) rfl)) rfl) hw ?_
 refine qv rfl (fun u hu=>len_op underlying35 HN.out u rfl) hw ?_
 refine qv rfl (fun u hu=>eqlI_op u HNZ.out rfl rfl) hw ?_
 refine enP fun u3 EX2=>?_
 go_upto_region 3 with (fail)
 refine wp_region_Hx (w0:=w) [0] [(w.heap.size+1+1,oc (arrB 32 []) 26),(w.heap.size+1,bxL A n c),(w.heap.size,bxN)] rfl EX2.out ?_
 refine(hOp_fresh (R:=fun x N=> ∃g,x= .pointer (some ⟨g,0,none⟩)∧N=[(g,oc #[.nilFunc] 186)]) (M0:=[(w.heap.size+1+1,oc (arrB 32 []) 26),(w.heap.size+1,bxL A n c),(w.heap.size,bxN)]) rfl rfl (fun _ h=>h) (fun u hu=>FAt_new (new_fnR _) u) ?_)
 rintro x N ⟨bw,rfl,rfl⟩ hf he4;intro K' hK';go_big_quiet_op;go_big_quiet_on
 have HGW:=hD (hf _ (mS.2 rfl))
 clear hf
 change lexH _ _ _ _ _ _ [(bw,oc #[.nilFunc] 186),(w.heap.size+1+1,oc (arrB 32 []) 26),(w.heap.size+1,bxL A n c),(w.heap.size,bxN)]
 refine enL fun u6 EX5=>?_
 go_upto_region 4 with (fail)
 refine rgQ [0] [1] EX5 rfl fun hw=>?_
 refine qv (v:=r1V (w.heap.size+1) bw w.heap.size) rfl (fun u hu=>mkFunc_op u rfl) hw ?_
 refine wpG_nil<|(hOp_putAt rfl (bw) (0) (r1V (w.heap.size+1) bw w.heap.size) rfl rfl HGW.out.1 186 (#[.nilFunc]) (#[r1V (w.heap.size+1) bw w.heap.size]) mH info_fnR (Nat.le_refl 1) (by kernel_rfl) rfl [(bw,oc (#[r1V (w.heap.size+1) bw w.heap.size]) 186),(w.heap.size+1+1,oc (arrB 32 []) 26),(w.heap.size+1,bxL A n c),(w.heap.size,bxN)] (mA ⟨.inl rfl,fun y hy=> .inr ⟨mT hy,HGW.out.2 y hy⟩⟩) ?_)
 refine fun _=>enL fun u10 EX9=>?_
 go_upto_region 5 with (fail)
 refine rgP [0,1,2,3,4] [5] EX9 rfl ?_;intro hw11 hone
 refine qv (v:=r1V (w.heap.size+1) bw w.heap.size) rfl (fun u hu=>load_any_op u (run_load_one oneFnR u (box_cell (k:=0) hu mH rfl)) rfl) ⟨_,hw11⟩ ?_
 refine qv (v:= .slice A n c) rfl (fun u hu=>load_any_op u (run_load_one oneIds u (box_cell (k:=0) hu (mT (mT mH)) rfl)) rfl) ⟨_,hw11⟩ ?_
 refine qv rfl (fun u hu=>len_op underlying35 HN.out u rfl) ⟨_,hw11⟩ ?_
 refine qv (v:= .agg #[ii 0,ii n]) rfl (fun u hu=>buildA_op u (by kernel_rfl)) ⟨_,hw11⟩ ?_
 (refine wpG_callV (f:=173) (args:= #[.agg #[ii 0,ii n]]) (caps:= #[ptr (w.heap.size+1),ptr bw,ptr w.heap.size]) (all:= #[.agg #[ii 0,ii n],ptr (w.heap.size+1),ptr bw,ptr w.heap.size]) (v:=idv (rootT l)) rfl rfl rfl rfl rfl func173 rfl rfl (fun u hu=>HR1.out u _ _ _ (EnvX.sub hu (mA ⟨mH,mA ⟨(mT (mT (mT mH))),mA ⟨(mT (mT mH)),(fun _ h=>by cases h)⟩⟩⟩))) ?_ hw11;intro K hK;go_big_quiet_op;go_big_quiet_on)
 clear hone hw11
 refine wpG_nil<|(so rfl HLE.out (mT mH) (info26 _ (arrB_size _ _ (by exact HNL.out))) ((arrB_size _ _ (by simp)).trans (arrB_size _ _ (by exact HNL.out)).symm) (arrB_one _ _) ?_)
 refine fun _=>enL fun u14 EX13=>?_
 have hsz:Hid ((arrB 32 (rootT l)).size=32):=arrB_size _ _ HNL.out
 have Q0:=hD (EnvX.box EX13.out _ _ mH)
 have HBEL:=hD EX13.out.bel
 clear EX13
 unfold idv
 generalize hcn:arrB 32 (rootT l)=cn at *
 have HCN:=hD hcn
 clear hcn
 go_wp2_with ((with_reducible refine bodyPost_ret (v:= .agg cn) ?_ ?_ ?_);(exact results_cell_row (p:=4) (ty:=26) results115 _ _ (w.heap.size+1+1) 26 cn (0,0) _ rfl Q0.out underlying26 rfl (info26 cn hsz.out));(rfl))
 first|exact HBEL.out|exact⟨rfl,HBEL.out⟩|exact⟨by unfold idv;rw[HCN.out],HBEL.out⟩
theorem rootBy_any(l:List (List Int))(A:Option Addr)(n c:Nat)(w:World)(hl:l.length=n)(hn:n≤1000000)(hI:isIds l)(hA:IdsIn w w.heap.size A l)(ht:Tables w):
   Rz 115 #[ndV, .slice A n c] w (idv (rootT l)):=by
 unfold Rz
 by_cases h0:n=0
 · subst h0
   obtain rfl:=List.eq_nil_of_length_eq_zero hl
   exact rootBy_none A c w ht
 · exact rootBy_some l A n c w hl hn (by omega) hI hA ht
theorem root_any(l:List (List Int))(A:Option Addr)(n c:Nat)(w:World)(hl:l.length=n)(hn:n≤1000000)(hI:isIds l)(hA:IdsIn w w.heap.size A l)(ht:Tables w):
  Rz 69 #[.slice A n c] w (idv (rootT l)):=by
 unfold Rz
 have HC:Hid (Rt w 115 #[ndV, .slice A n c] (idv (rootT l))):=fun u hu=>rootBy_any l A n c u hl hn hI (hA.up (EnvX.bel hu)) (ht.below (EnvX.bel hu))
 have HNL:Hid ((rootT l).length≤32):=by show _≤_;rw[(root_id hI).1];omega
 have E1:Hid (EnvX w (w.alloc (.cells (arrB 32 []) 26)) [(w.heap.size,oc (arrB 32 []) 26)]):=(EnvX.start w).new _
 clear hI hA ht
 go_enter func69,ntmps69
 go_upto_region 1 with (fail)
 rw[zero_cells]
 generalize w.alloc (.cells (arrB 32 []) 26)=W at *
 refine rgQ [0,1] [2] E1 rfl fun hw=>?_
 refine qo rfl hw ?_
 refine qc rfl func115 (fun u hu=>HC.out u (nl hu)) hw ?_
 refine wpG_nil<|(so rfl (Nat.le_refl _) mH (info26 _ (arrB_size _ _ (by exact HNL.out))) ((arrB_size _ _ (by simp)).trans (arrB_size _ _ (by exact HNL.out)).symm) (arrB_one _ _) ?_)
 refine fun _=>enL fun u4 EX3=>?_
 have hsz:Hid ((arrB 32 (rootT l)).size=32):=arrB_size _ _ HNL.out
 have Q0:=hD (EnvX.box EX3.out _ _ mH)
 have HBEL:=hD EX3.out.bel
 clear EX3
 unfold idv
 generalize hcn:arrB 32 (rootT l)=cn at *
 have HCN:=hD hcn
 clear hcn
 go_wp2_with ((with_reducible refine bodyPost_ret (v:= .agg cn) ?_ ?_ ?_);(exact results_cell_row (p:=2) (ty:=26) results69 _ _ w.heap.size 26 cn (0,0) _ rfl Q0.out underlying26 rfl (info26 cn hsz.out));(rfl))
 first|exact HBEL.out|exact⟨rfl,HBEL.out⟩|exact⟨by unfold idv;rw[HCN.out],HBEL.out⟩
theorem elIdM:ElemT 35 26 32 32 (.agg (arrB 32 [])):=⟨underlying35,by kernel_rfl,arrB_size _ _ (by simp),by decide,by decide,by decide⟩
section
variable {a:Act}{dst:Option Tmp}{x y:Operand}{ty:TypeId}{pos:String}{after:Array Edge}{gd:Option (Nat × Bool)}
theorem FAt_makeI{n:Nat}(hn:n≤1000000)(hx:a.eval x= .int .i64 (n:Int))(u:World):
  FAt Tryz.prog ⟨dst, .makeSlice 35 (.const (.int .i64 0)) x,ty,pos,after,gd⟩ a (fun v N=> ∃g cur,v= .slice (some ⟨g,0,none⟩) 0 n∧N=[(g,oc cur 26)]∧cur.size=n*32) u:=by
 have T:=elIdM
 cases hq:Tryz.prog.info? 26 with
 |none=>have:=T.info;rw[hq]at this;cases this
 |some i=>
  have hi:=T.info
  rw[hq]at hi
  simp only[Option.map_some,Option.some.injEq,Prod.mk.injEq]at hi
  obtain⟨k1,k2,k3⟩:=hi
  have hmul:32*n≤32*1000000:=Nat.mul_le_mul (Nat.le_refl _) hn
  have hr:=run_make (P:=Tryz.prog) u 35 26 i (.agg (arrB 32 [])) T.und hq k1 .i64 .i64 0 (n:Int) (by omega) (by omega) (by rw[k3,←Int.natCast_mul];omega) (by omega)
  have ha0:a.eval (.const (.int .i64 0))= .int .i64 0:=rfl
  unfold FAt execOp
  simp only[hx,ha0,Sem.run_bind,Sem.run_pure,hr,Result.andThen_ok]
  refine⟨(Below.refl _ _).alloc (Nat.le_refl _) _,[(u.heap.size,oc (madeCells (Value.agg (arrB 32 [])).cells ((n:Int).toNat*i.size)) 26)],⟨u.heap.size,madeCells (Value.agg (arrB 32 [])).cells ((n:Int).toNat*i.size),rfl,rfl,?_⟩,fun y hy=>?_⟩
  · rw[size_madeCells,k2]
    simp
  · cases mS.1 hy
    exact⟨Nat.le_refl _,heap_alloc_new u _⟩
end
theorem pidX_no(t:TxM)(w:World)(ht:TxOk w t)(htt:Tables w)(k:mayX t.r=false):
  Rz 133 #[txV t] w (idv (idX t.r)):=by
 unfold Rz
 have hp:putX t.r=([],false):=by unfold putX;rw[k];rfl
 have hi:idX t.r=z32:=by unfold idX;rw[k];rfl
 rw[hi]
 have HZ:Hid ((arrB 32 z32).size=32):=arrB_size _ _ (by decide)
 clear k hi
 have HLE:Hid (w.heap.size≤w.heap.size+1):=by show _≤_;omega
 have E1:Hid (EnvX w ((w.alloc (.cells (txA t) 77)).alloc (.cells (arrB 32 []) 26)) [(w.heap.size+1,oc (arrB 32 []) 26),(w.heap.size,oc (txA t) 77)]):=(EnvX.start w).two _ _
 have HPT:Hid (∀u,Below w.heap.size w u→Calls Tryz.prog 184 #[txV t] u fun e w'=>(∃v,e= .returned (.tuple #[v, .bool (putX t.r).2])∧OwnB w' u.heap.size v (putX t.r).1)∧Below u.heap.size u w'):=fun u hu=>putP_any t u (ht.up hu)
 rw[hp]at HPT
 clear hp ht
 unfold txV at *
 go_enter func133,ntmps133
 go_upto_region 1 with (fail)
 rw[zero_cells]
 generalize (w.alloc (.cells (txA t) 77)).alloc (.cells (arrB 32 []) 26)=W at *
 have HLD:Hid ((loadVar 77 ⟨w.heap.size,0,none⟩).run Tryz.prog W= .ok (.agg (txA t)) W):=box_tx E1.out (mT mH)
 go_wp2_with ((with_reducible refine wpList_load_run (o:=⟨some 6,_,_,_,_,_⟩) ?_ 77 (.tmp 1) ?_ ⟨w.heap.size,0,none⟩ ?_ HLD.out ?_);(rfl);(rfl);(rfl))
 refine(HPT.out W (EnvX.bel E1.out)).mono ?_
 rintro e w1 ⟨⟨v,rfl,hv⟩,hb⟩
 have E2:Hid (EnvX w w1 [(w.heap.size+1,oc (arrB 32 []) 26),(w.heap.size,oc (txA t) 77)]):=EnvX.below E1.out hb
 clear hv hb E1 HLD htt
 go_upto_region 3 with (fail)
 refine rgQ [0] [1] E2 rfl fun hw=>?_
 refine qv (v:= .agg (arrB 32 z32)) rfl (fun u hu=>buildA_op u hbuilt0) hw ?_
 refine wpG_nil<|(so rfl HLE.out mH (info26 _ HZ.out) ((arrB_size _ _ (by simp)).trans HZ.out.symm) (arrB_one _ _) ?_)
 refine fun _=>enL fun u4 EX3=>?_
 have Q0:=hD (EnvX.box EX3.out _ _ mH)
 have HBEL:=hD EX3.out.bel
 clear EX3
 go_wp2_with ((with_reducible refine bodyPost_ret (v:= .agg (arrB 32 z32)) ?_ ?_ ?_);(exact results_cell_row (p:=2) (ty:=26) results133 _ _ (w.heap.size+1) 26 (arrB 32 z32) (0,0) _ rfl Q0.out underlying26 rfl (info26 _ HZ.out));(rfl))
 exact⟨rfl,HBEL.out⟩
theorem pidX_yes(t:TxM)(w:World)(ht:TxOk w t)(htt:Tables w)(k:mayX t.r=true):
   Rz 133 #[txV t] w (idv (idX t.r)):=by
 unfold Rz
 have hp:putX t.r=(bodyX t.r,true):=by unfold putX;rw[k];rfl
 have hi:idX t.r=sumL (6::bodyX t.r):=by unfold idX;rw[k];rfl
 rw[hi]
 obtain⟨su,hsu⟩: ∃su,sumL (6::bodyX t.r)=su:=⟨_,rfl⟩
 have HZ:Hid ((arrB 32 su).size=32):=arrB_size _ _ (by rw[←hsu,sumL_len];omega)
 have HSU:=hD hsu
 rw[hsu]
 clear hsu
 obtain⟨m,hm⟩: ∃m,(bodyX t.r).length=m:=⟨_,rfl⟩
 have hml:2≤m∧m≤200:=by
   have h1:=bodyX_len ht.ok
   have h2:=mayX_iff.1 k
   omega
 have HBO:Hid ((bodyX t.r).length=m∧isB (bodyX t.r)):=⟨hm,bodyX_byte ht.ok k⟩
 have HML:=hD hml
 clear k hi hm hml
 have HLE:Hid (w.heap.size≤w.heap.size+1):=by show _≤_;omega
 have E1:Hid (EnvX w ((w.alloc (.cells (txA t) 77)).alloc (.cells (arrB 32 []) 26)) [(w.heap.size+1,oc (arrB 32 []) 26),(w.heap.size,oc (txA t) 77)]):=(EnvX.start w).two _ _
 have HPT:Hid (∀u,Below w.heap.size w u→Calls Tryz.prog 184 #[txV t] u fun e w'=>(∃v,e= .returned (.tuple #[v, .bool (putX t.r).2])∧OwnB w' u.heap.size v (putX t.r).1)∧Below u.heap.size u w'):=fun u hu=>putP_any t u (ht.up hu)
 rw[hp]at HPT
 clear hp ht
 unfold txV at *
 go_enter func133,ntmps133
 go_upto_region 1 with (fail)
 rw[zero_cells]
 generalize (w.alloc (.cells (txA t) 77)).alloc (.cells (arrB 32 []) 26)=W at *
 have HLD:Hid ((loadVar 77 ⟨w.heap.size,0,none⟩).run Tryz.prog W= .ok (.agg (txA t)) W):=box_tx E1.out (mT mH)
 go_wp2_with ((with_reducible refine wpList_load_run (o:=⟨some 6,_,_,_,_,_⟩) ?_ 77 (.tmp 1) ?_ ⟨w.heap.size,0,none⟩ ?_ HLD.out ?_);(rfl);(rfl);(rfl))
 refine(HPT.out W (EnvX.bel E1.out)).mono ?_
 rintro e w1 ⟨⟨v,rfl,hv⟩,hb⟩
 obtain⟨hv1,⟨_,h0⟩|⟨gv,capv,curv,rfl,hg1,hg2,hg3⟩⟩:=hv
 · have:=HBO.out.1
   have:=HML.out
   have h1:(bodyX t.r).length=0:=h0
   omega
 have E2:Hid (EnvX w w1 [(gv,oc curv 5),(w.heap.size+1,oc (arrB 32 []) 26),(w.heap.size,oc (txA t) 77)]):=⟨(EnvX.below E1.out hb).bel,fun g o hm=>by
   rcases List.mem_cons.1 hm with e|e
   · cases e
     exact hg2
   · exact(EnvX.below E1.out hb).box g o e⟩
 rw[HBO.out.1]at hg3 ⊢
 have HGV:=hD hg3
 have HOF:Hid (∀(u:World)(gr:Nat),EnvX w u []→Parts u u.heap.size (some ⟨gr,0,none⟩) [[6],bodyX t.r]→Calls Tryz.prog 65 #[.slice (some ⟨gr,0,none⟩) 2 2] u fun e w'=>e= .returned (.agg (arrB 32 su))∧Below u.heap.size u w'):=fun u gr hE hp=>by
   have e:[[6],bodyX t.r].flatten=6::bodyX t.r:=by simp
   have h1:=shaof_any (some ⟨gr,0,none⟩) 2 2 [[6],bodyX t.r] u rfl hp (by omega) (by rw[e,List.length_cons,HBO.out.1];have:=HML.out;omega) (htt.below hE.bel)
   rwa[e,HSU.out]at h1
 clear hv1 hb E1 HLD hg1 hg2 hg3 htt
 go_upto_region 4 with (fail)
 refine wp_region_Hx (w0:=w) [0,1,2,3,4] [(gv,oc curv 5),(w.heap.size+1,oc (arrB 32 []) 26),(w.heap.size,oc (txA t) 77)] rfl E2.out ?_
 refine(hOp_fresh (R:=fun v N=> ∃g,v= .slice (some ⟨g,0,none⟩) 1 1∧N=[(g,oc #[.int .u8 6] 5)]) (M0:=[(gv,oc curv 5),(w.heap.size+1,oc (arrB 32 []) 26),(w.heap.size,oc (txA t) 77)]) rfl rfl (fun _ h=>h) (fun u hu=>FAt_byte1 6 u) ?_)
 rintro _ _ ⟨g5,rfl,rfl⟩ hf he1;intro K' hK';go_big_quiet_op;go_big_quiet_on
 clear hf
 refine phE [1] [2,3,4] he1 fun hw=>?_
 refine qo rfl hw ?_
 refine wpG_nil<|(hOp_fresh (R:=fun v N=> ∃g,v= .slice (some ⟨g,0,none⟩) 2 2∧N=[(g,oc #[.slice (some ⟨g5,0,none⟩) 1 1, .slice (some ⟨gv,0,none⟩) m capv] 100)]) (M0:=[(g5,oc #[.int .u8 6] 5),(gv,oc curv 5),(w.heap.size+1,oc (arrB 32 []) 26),(w.heap.size,oc (txA t) 77)]) rfl rfl (fun _ h=>h) (fun u hu=>FAt_rows2 rfl rfl u) ?_)
 rintro _ _ ⟨gr,rfl,rfl⟩ hf he3;intro K' hK';go_big_quiet_op;go_big_quiet_on
 clear hf
 refine phE [3] [4] he3 fun hw=>?_
 refine qc rfl func65 (fun u hu=>HOF.out u gr (nl hu) (parts_two (EnvX.lt hu mH) (by have h:=box_cell (k:=0) hu mH rfl;exact h) (boxR_bytes (cap:=1) hu (mT mH) rfl ⟨by decide,by decide,rfl,rfl⟩) (by intro x hx;cases mS.1 hx;omega) (by have h:=box_cell (k:=1) hu mH rfl;rw[HBO.out.1];exact h) (boxR_bytes hu (mT (mT mH)) HBO.out.1 HGV.out) HBO.out.2)) hw ?_
 refine wpG_nil<|(so rfl HLE.out (mT (mT (mT mH))) (info26 _ HZ.out) ((arrB_size _ _ (by simp)).trans HZ.out.symm) (arrB_one _ _) ?_)
 refine fun _=>enL fun u7 EX6=>?_
 have Q0:=hD (EnvX.box EX6.out _ _ mH)
 have HBEL:=hD EX6.out.bel
 clear EX6
 go_wp2_with ((with_reducible refine bodyPost_ret (v:= .agg (arrB 32 su)) ?_ ?_ ?_);(exact results_cell_row (p:=2) (ty:=26) results133 _ _ (w.heap.size+1) 26 (arrB 32 su) (0,0) _ rfl Q0.out underlying26 rfl (info26 _ HZ.out));(rfl))
 exact⟨rfl,HBEL.out⟩
theorem pidX_any(t:TxM)(w:World)(ht:TxOk w t)(htt:Tables w):
  Rz 133 #[txV t] w (idv (idX t.r)):=by
 unfold Rz
 cases k:mayX t.r with
 |true=>exact pidX_yes t w ht htt k
 |false=>exact pidX_no t w ht htt k
theorem prootX_any(l:List TxM)(A:Option Addr)(n c:Nat)(w:World)(hl:l.length=n)(hn:n≤1000000)(hnc:n≤c)(hcm:c≤maxLen)(hA:TxsIn w A l)(ht:Tables w):
  Rz 81 #[.slice A n c] w (idv (rootT (idsX (rsT l)))):=by
 unfold Rz
 have HL:=hD hl
 have HIA:=hD hA
 have HTT:=hD ht
 have HN6:Hid (n≤1000000):=hn
 have HN63:Hid (n<9223372036854775808):=by show _<_;omega
 have HNM:Hid (n≤maxLen):=Nat.le_trans hnc hcm
 have hri:=root_id (idsX_ids (rsT l))
 have HRT:Hid (∀(u:World)(A1:Option Addr)(c1:Nat),Below w.heap.size w u→(idsX (rsT l)).length≤c1→c1≤maxLen→IdsIn u u.heap.size A1 (idsX (rsT l))→Calls Tryz.prog 69 #[.slice A1 (idsX (rsT l)).length c1] u fun e w'=>e= .returned (idv (rootT (idsX (rsT l))))∧Below u.heap.size u w'):=fun u A1 c1 hb h1 h2 h3=>root_any (idsX (rsT l)) A1 _ c1 u rfl (by rw[idsX_len,hl];exact hn) (idsX_ids _) h3 (ht.below hb)
 have E1:Hid (EnvX w (w.alloc (.cells (arrB 32 []) 26)) [(w.heap.size,oc (arrB 32 []) 26)]):=(EnvX.start w).new _
 generalize rootT (idsX (rsT l))=rt at *
 have HZ:Hid ((arrB 32 rt).size=32):=arrB_size _ _ (by rw[hri.1];omega)
 clear hl hA ht hnc hcm hri
 unfold idv
 go_enter func81,ntmps81
 go_upto_region 1 with (fail)
 rw[zero_cells]
 generalize w.alloc (.cells (arrB 32 []) 26)=W at *
 refine rgQ [0,1] [2,3] E1 rfl fun hw=>?_
 refine qo rfl hw ?_
 refine qv rfl (fun u hu=>len_op underlying23 HN63.out u rfl) hw ?_
 refine wpG_nil<|(hOp_fresh (R:=fun v N=> ∃g cur,v= .slice (some ⟨g,0,none⟩) 0 n∧N=[(g,oc cur 26)]∧cur.size=n*32) (M0:=[(w.heap.size,oc (arrB 32 []) 26)]) rfl rfl (fun _ h=>h) (fun u hu=>FAt_makeI HN6.out rfl u) ?_)
 rintro _ _ ⟨gm,cm,rfl,rfl,hcm⟩ hf he2;intro K' hK';go_big_quiet_op;go_big_quiet_on
 have HCM:=hD hcm
 have HGM:=hD (hf _ (mS.2 rfl))
 clear hcm
 clear hf
 refine phE [3] [] he2 fun hw=>?_
 refine qo rfl hw ?_
 refine enP fun u5 EX4=>?_
 go_upto_region 2 with (fail)
 refine rgQ [0,1,2] [] EX4 rfl fun hw=>?_
 refine qo rfl hw ?_
 refine qv rfl (fun u hu=>len_op underlying23 HN63.out u rfl) hw ?_
 refine qo rfl hw ?_
 refine enP fun u8 EX7=>?_
 have HINV:Hid (∃N,FreshI (idsX (rsT (l.take 0))) (.slice (some ⟨gm,0,none⟩) 0 n) N∧freshN w N [(w.heap.size,oc (arrB 32 []) 26)]∧EnvX w u8 (N++[(w.heap.size,oc (arrB 32 []) 26)])):=⟨[(gm,oc cm 26)], .inl ⟨gm,n,cm,rfl,rfl,Nat.zero_le _,HNM.out,HCM.out,rfl⟩,(fun y hy=>by cases mS.1 hy;exact HGM.out),EX7.out⟩
 clear EX7 E1 HCM HGM HNM
 go_upto_region 3 with (fail)
 go_loopw [3,11] (fun v iv u=> ∃k:Nat,k≤n∧iv= .int .i64 (k:Int)∧Hid (∃N,FreshI (idsX (rsT (l.take k))) v N∧freshN w N [(w.heap.size,oc (arrB 32 []) 26)]∧EnvX w u (N++[(w.heap.size,oc (arrB 32 []) 26)]))) (fun _ iv _=>n- (intOf iv).toNat)
 case atStart=>exact⟨0,by omega,rfl,HINV⟩
 case round=>
  obtain⟨k,hk,rfl,hinv⟩:=hrel
  obtain⟨N,hF,hN,hE⟩:=hinv.out
  have HF:=hD hF
  have HN:=hD hN
  have EK:=hD hE
  clear hinv HINV hF hN hE
  by_cases hlt:k<n
  · have C3:Hid (decide ((k:Int)<(n:Int))=true):=decide_eq_true (by omega)
    have hkl:k<l.length:=by rw[HL.out];exact hlt
    obtain⟨ad,rfl,-,hld⟩:=HIA.out.loads hkl
    have HLD:Hid (∀u,EnvX w u []→(loadVar 77 (ad.add (k*2))).run Tryz.prog u= .ok (txV (l.getD k noTxM)) u):=fun u hu=>(hld u hu).1
    have hst:=idsX_step hkl
    have hQl:(idsX (rsT (l.take k))).length=k:=by rw[idsX_len,List.length_take];omega
    have HID:Hid (Rb w 133 #[txV (l.getD k noTxM)] (idv (idX (l.getD k noTxM).r))):=fun u hu=>pidX_any _ u ((HIA.out.get hkl).up hu) (HTT.out.below hu)
    have HQ:Hid (isIds (idsX (rsT (l.take k)))∧(idsX (rsT (l.take k))).length≤1000000):=⟨idsX_ids _,by omega⟩
    have HKN:=hD hlt
    have HST:=hD hst
    clear hst hQl hkl hlt hld
    generalize idsX (rsT (l.take k))=Q at *
    generalize l.getD k noTxM=t at *
    have HLX:Hid ((idX t.r).length=32):=(idX_id t.r).1
    go_upto_region 3 with (fail)
    refine rgQ [0] [] EK rfl fun hw=>?_
    refine qv rfl (fun u hu=>ltZ_op u C3.out rfl rfl) hw ?_
    refine enP fun u11 EX10=>?_
    go_upto_region 4 with (fail)
    refine rgQ [0,1] [2,3] EX10 rfl fun hw=>?_
    refine qv rfl (fun u hu=>idxSl_op underlying23 aggTx.size HKN.out u rfl rfl) hw ?_
    refine qv rfl (fun u hu=>load_any_op u (HLD.out u (nl hu)) rfl) hw ?_
    refine wpG_nil<|qn rfl (new_tx _) fun gt HGT he13=>?_
    change lexH _ _ _ _ _ _ ((gt,oc (txA noTxM) 77)::(N++((w.heap.size,oc (arrB 32 []) 26)::[])))
    refine(sh rfl HGT (infoTx _ (txA_size _)) ((txA_size _).trans (txA_size _).symm) (txA_one _) ?_)
    refine fun _=>enL fun u16 EX15=>?_
    go_upto_region 5 with (fail)
    refine rgQ [0,1,2] [3,4,5] EX15 rfl fun hw=>?_
    refine qo rfl hw ?_
    refine ql rfl mH trivial hw ?_
    refine qc rfl func133 (fun u hu=>HID.out u (EnvX.bel hu)) hw ?_
    refine wpG_nil<|(hOp_fresh (R:=BuiltI (idX t.r)) (M0:=((gt,oc (txA t) 77)::(N++((w.heap.size,oc (arrB 32 []) 26)::[])))) rfl rfl (fun _ h=>h) (fun u hu=>FAt_buildI HLX.out rfl u) ?_)
    rintro _ _ ⟨gq,rfl,rfl⟩ hf he18;intro K' hK';go_big_quiet_op;go_big_quiet_on
    clear hf
    change lexH _ _ _ _ _ _ ((gq,oc (arrB 32 (idX t.r)) 26)::((gt,oc (txA t) 77)::(N++((w.heap.size,oc (arrB 32 []) 26)::[]))))
    refine(hOp_own (gd:=none) (R:=GrownI w (Q++[idX t.r]) [(w.heap.size,oc (arrB 32 []) 26)]) rfl rfl rfl rfl (fun u hu=>appI_op [(w.heap.size,oc (arrB 32 []) 26)] hu HQ.out.1 HLX.out HF.out (fun y hy=>⟨mT (mT (mL hy)),(HN.out y hy).1⟩) mH (fun z hz=>⟨mT (mT (mR hz)),fun y hy=>(HN.out y hy).2 z hz⟩) HQ.out.2 rfl rfl) ?_)
    rintro x9 M' ⟨N9,rfl,hF9,hn9⟩ he19;intro K' hK';go_big_quiet_op;go_big_quiet_on
    have HF9:=hD hF9
    have HN9:=hD hn9
    clear hF9 hn9
    refine phE [5] [] he19 fun hw=>?_
    refine qo rfl hw ?_
    refine enP fun u22 EX21=>?_
    have HNX:Hid (∃N,FreshI (idsX (rsT (l.take (k+1)))) x9 N∧freshN w N [(w.heap.size,oc (arrB 32 []) 26)]∧EnvX w u22 (N++[(w.heap.size,oc (arrB 32 []) 26)])):=⟨N9,by rw[HST.out];exact HF9.out,HN9.out,EX21.out⟩
    have hkn:=HKN.out
    have hn6:=HN6.out
    go_wp2
    go_roundw
    case rel=>exact⟨k+1,by omega,by go_num,HNX⟩
    case measure=>simp[intOf];omega
  · obtain rfl:k=n:=by omega
    have C3:Hid (decide ((k:Int)<(k:Int))=false):=decide_eq_false (by omega)
    rw[tL (by rw[HL.out];exact Nat.le_refl _)]at HF
    go_upto_region 3 with (fail)
    refine rgQ [0] [] EK rfl fun hw=>?_
    refine qv rfl (fun u hu=>ltZ_op u C3.out rfl rfl) hw ?_
    refine enP fun u203 EX202=>?_
    obtain⟨A1,c1,rfl,hc1,hc2⟩:=FreshI.form HF.out
    have HFO:=hD (And.intro hc1 hc2)
    clear hc1 hc2
    go_upto_region 7 with (fail)
    refine rgQ [0,1] [2] EX202 rfl fun hw=>?_
    refine qo rfl hw ?_
    refine qc rfl func69 (fun u hu=>HRT.out u A1 c1 (EnvX.bel hu) HFO.out.1 HFO.out.2 (HF.out.ids (idsX_ids _) hu (fun y hy=>mL hy))) hw ?_
    refine wpG_nil<|(so rfl (Nat.le_refl _) (mR mH) (info26 _ HZ.out) ((arrB_size _ _ (by simp)).trans HZ.out.symm) (arrB_one _ _) ?_)
    refine fun _=>enL fun u207 EX206=>?_
    have Q0:=hD (EnvX.box EX206.out _ _ mH)
    have HBEL:=hD EX206.out.bel
    clear EX206
    go_wp2_with ((with_reducible refine bodyPost_ret (v:= .agg (arrB 32 rt)) ?_ ?_ ?_);(exact results_cell_row (p:=2) (ty:=26) results81 _ _ (w.heap.size) 26 (arrB 32 rt) (0,0) _ rfl Q0.out underlying26 rfl (info26 _ HZ.out));(rfl))
    first|exact HBEL.out|exact⟨rfl,HBEL.out⟩
def SpE(p:List CoinR)(t:TxR)(w:World)(B:Nat)(e:Ending):Prop:= ∃v,e= .returned (.tuple #[v, .int .i64 (spendP p t).2.1, .int .i64 ((spendP p t).2.2:Int)])∧((spendP p t).2.2=0→w.ownsRow B 137 35 v (spendP p t).1.length (((spendP p t).1).map coC).flatten)
theorem SpE.mk{p:List CoinR}{t:TxR}{w:World}{B:Nat}{q:List CoinR}{m:Int}{k:Nat}(v:Value)(h:spendP p t=(q,m,k))(hv:k=0→w.ownsRow B 137 35 v q.length (q.map coC).flatten):SpE p t w B (.returned (.tuple #[v, .int .i64 m, .int .i64 (k:Int)])):=⟨v,by rw[h],by rw[h];exact hv⟩
def SpN(p:List CoinR)(t:TxR)(x:Value)(N:Boxes):Prop:= ∃v,x= .tuple #[v, .int .i64 (spendP p t).2.1, .int .i64 ((spendP p t).2.2:Int)]∧((spendP p t).2.2=0→FreshR 137 35 (spendP p t).1.length (((spendP p t).1).map coC).flatten v N)
theorem callsS_fresh{f:FuncId}{args:Array Value}{u:World}{p:List CoinR}{t:TxR}(h:Calls Tryz.prog f args u fun e w'=>SpE p t w' u.heap.size e∧Below u.heap.size u w'):
  Calls Tryz.prog f args u fun e w'=> ∃x N,e= .returned x∧SpN p t x N∧Below u.heap.size u w'∧ ∀y∈N,u.heap.size≤y.1∧w'.heap[y.1]?=some y.2:=
 h.mono fun e w'⟨⟨v,he,hv⟩,hb⟩=>by
  by_cases h0:(spendP p t).2.2=0
  · obtain⟨N,hF,hN⟩:=fresh_of_own (hv h0)
    exact⟨_,N,he,⟨v,rfl,fun _=>hF⟩,hb,fun y hy=>⟨(hN y hy).1,(hN y hy).2.1⟩⟩
  · exact⟨_,[],he,⟨v,rfl,fun h=>absurd h h0⟩,hb,fun y hy=>by cases hy⟩
theorem callsW_none{f:FuncId}{args:Array Value}{u:World}{p:List CoinR}{xs:List InR}(h:Calls Tryz.prog f args u fun e w'=>WoE p xs w' u.heap.size e∧Below u.heap.size u w')(hn:takeP p xs=none):
  Calls Tryz.prog f args u fun e w'=>e= .returned (.tuple #[.slice none 0 0, .int .i64 0, .bool false])∧Below u.heap.size u w':=
 h.mono fun e w'⟨⟨v,m,b,he,hv⟩,hb⟩=>by
  unfold WoR at hv
  rw[hn]at hv
  obtain⟨rfl,rfl,rfl⟩:=hv
  exact⟨he,hb⟩
def WoN(l:List CoinR)(m:Int)(x:Value)(N:Boxes):Prop:= ∃v,x= .tuple #[v, .int .i64 m, .bool true]∧FreshR 137 35 l.length (l.map coC).flatten v N
theorem callsW_some{f:FuncId}{args:Array Value}{u:World}{p:List CoinR}{xs:List InR}{l:List CoinR}{m:Int}(h:Calls Tryz.prog f args u fun e w'=>WoE p xs w' u.heap.size e∧Below u.heap.size u w')(hn:takeP p xs=some (l,m)):
  Calls Tryz.prog f args u fun e w'=> ∃x N,e= .returned x∧WoN l m x N∧Below u.heap.size u w'∧ ∀y∈N,u.heap.size≤y.1∧w'.heap[y.1]?=some y.2:=
 h.mono fun e w'⟨⟨v,m',b,he,hv⟩,hb⟩=>by
  unfold WoR at hv
  rw[hn]at hv
  obtain⟨hv,rfl,rfl⟩:=hv
  obtain⟨N,hF,hN⟩:=fresh_of_own hv
  exact⟨_,N,he,⟨v,rfl,hF⟩,hb,fun y hy=>⟨(hN y hy).1,(hN y hy).2.1⟩⟩
theorem FreshR.lenOf{e:TypeId}{z n:Nat}{xs:List Value}{x:Value}{N:Boxes}(h:FreshR e z n xs x N):xs.length=n*z:=by
 rcases h with ⟨g,cap,cur,_,_,h1,_,h3,h4⟩|⟨_,_,h1,h2⟩
 · rw[←h4,List.length_take,Array.length_toList,h3]
   have:n*z≤cap*z:=Nat.mul_le_mul_right _ h1
   omega
 · rw[h2,h1]
   simp
theorem pexchange_any (p:List CoinR) (A:Option Addr) (n c:Nat) (r:TxR) (A1:Option Addr) (n1 c1:Nat) (A2:Option Addr) (n2 c2:Nat) (w:World) (hl:p.length=n) (hnc:n≤c) (hcm:c≤maxLen) (hI:okP p) (hA:CoinsIn w w.heap.size A p) (ht:TxOk w ⟨r,A1,n1,c1,A2,n2,c2⟩) (hmy:mayP p=true) (hmx:mayX r=true) (hin:r.ins≠[]):
   Calls Tryz.prog 211 #[.slice A n c,txV ⟨r,A1,n1,c1,A2,n2,c2⟩,idv (idX r)] w fun e w'=>SpE p r w' w.heap.size e∧Below w.heap.size w w':=by
 have hid:=idX_id r
 have hsn:takeP p r.ins=none→spendP p r=(p,0,8):=fun h=>spend_none hmy hmx hin h
 have hss: ∀l m,takeP p r.ins=some (l,m)→spendP p r=if m<worthX r then (p,0,8)else if thereP l (idX r)then (p,0,10)else if 48<(madeP l (newC (idX r) 0 r.outs)).length then (p,0,11)else (madeP l (newC (idX r) 0 r.outs),m- worthX r,0):=fun l m h=>spend_some hmy hmx hin h
 have hm3:=mayX_iff.1 hmx
 have hl1:r.ins.length=n1:=ht.l1
 have hl2:r.outs.length=n2:=ht.l2
 have HL2:=hD hl2
 have HWO:Hid (∀u,Below w.heap.size w u→Calls Tryz.prog 229 #[.slice A n c, .slice A1 n1 c1] u fun e w'=>WoE p r.ins w' u.heap.size e∧Below u.heap.size u w'):=fun u hu=>
   pwithout_any p A n c r.ins A1 n1 c1 u hl hI hmy (CellsIn.up hA hu) hl1 (by rw[←hl1];have:=hm3.1;omega) ht.o1 (ht.m1.up hu)
 have HWX:Hid (Rb w 213 #[.slice A2 n2 c2] (.int .i64 (worthX r))):=fun u hu=>
   pworth_any r.outs A2 n2 c2 u hl2 (by rw[←hl2];have:=hm3.2.2.1;omega) (ht.m2.up hu) (fun o ho=>decide_eq_true (hm3.2.2.2.2.2 o ho))
 have hwb:0≤worthX r∧worthX r≤1099511627776*r.outs.length:=worthL_bound (l:=r.outs) (fun o ho=>decide_eq_true (hm3.2.2.2.2.2 o ho))
 have h3o:n2≤3∧1≤n2:=⟨by rw[←hl2];exact hm3.2.2.1,by rw[←hl2];exact hm3.2.1⟩
 rw[hl2]at hwb
 have HWB:=hD hwb
 have H3O:=hD h3o
 have HOO:Hid (okOuts r.outs):=ht.o2
 have HM2:Hid (OutsIn w w.heap.size A2 r.outs):=ht.m2
 have HPP:=hD hI
 have HMY:=hD hmy
 obtain⟨id,hide⟩: ∃id,idX r=id:=⟨_,rfl⟩
 rw[hide]at hid hss ⊢
 have HID:=hD hid
 have HIL:Hid (id.length=32):=hid.1
 obtain⟨wx,hwx⟩: ∃wx,worthX r=wx:=⟨_,rfl⟩
 rw[hwx]at HWX HWB hss
 have E1:Hid (EnvX w ((w.alloc (.cells (txA ⟨r,A1,n1,c1,A2,n2,c2⟩) 77)).alloc (.cells (arrB 32 id) 26)) [(w.heap.size+1,oc (arrB 32 id) 26),(w.heap.size,oc (txA ⟨r,A1,n1,c1,A2,n2,c2⟩) 77)]):=(EnvX.start w).two _ _
 clear hl hnc hcm hI hA ht hmy hmx hin hid hide hwx hm3 hl1 hl2 hwb h3o
 unfold txV idv
 rcases htk:takeP p r.ins with _|⟨l,m⟩
 · have HF:Hid (spendP p r=(p,0,8)):=hsn htk
   have HWN:Hid (Rb w 229 #[.slice A n c, .slice A1 n1 c1] (.tuple #[.slice none 0 0, .int .i64 0, .bool false])):=fun u hu=>callsW_none (HWO.out u hu) htk
   have HSB:Hid (IntKind.i64.wrap (0- wx)=0- wx):=wrapS (by have:=HWB.out;have:=H3O.out;omega)
   clear hsn hss htk
   go_enter func211,ntmps211
   go_upto_region 1 with (fail)
   generalize (w.alloc (.cells (txA ⟨r,A1,n1,c1,A2,n2,c2⟩) 77)).alloc (.cells (arrB 32 id) 26)=W at *
   refine rgQ [0,1,2,3,4,5,6,7,8,9,10] [] E1 rfl fun hw=>?_
   refine qw 2 hw ?_
   refine ql rfl (mT mH) trivial hw ?_
   refine qc rfl func229 (fun u hu=>HWN.out u (EnvX.bel hu)) hw ?_
   refine qw 7 hw ?_
   refine enP fun u3 EX2=>?_
   go_upto_region 2 with (fail)
   refine rgQ [0,1,2,3,4,5] [] EX2 rfl fun hw=>?_
   refine qw 2 hw ?_
   refine ql rfl (mT mH) trivial hw ?_
   refine qc rfl func213 (fun u hu=>HWX.out u (EnvX.bel hu)) hw ?_
   refine qv rfl (fun u hu=>subZ_op u HSB.out rfl rfl) hw ?_
   refine qo rfl hw ?_
   refine enP fun u6 EX5=>?_
   go_upto_region 3 with (fail)
   refine rgQ [0,1,2,3,4,5,6] [] EX5 rfl fun hw=>?_
   refine qw 7 hw ?_
   refine enP fun u9 EX8=>?_
   go_upto_region 4 with (fail)
   refine rgQ [0,1,2] [] EX8 rfl fun hw=>?_
   refine qw 3 hw ?_
   refine enP fun u12 EX11=>?_
   have HBE:=hD (EnvX.bel EX11.out)
   go_wp2
   go_returns
   exact⟨SpE.mk (.slice none 0 0) HF.out (fun h=>by cases h),HBE.out⟩
 · have htb:=take_bounds HMY.out HPP.out htk
   have HTB:=hD htb
   have HUP:Hid (upP l):=(mayP_iff.1 HMY.out).2.2.sublist (take_some _ _ _ htk).1
   have hsp:=hss l m htk
   have HWS:Hid (∀u,Below w.heap.size w u→Calls Tryz.prog 229 #[.slice A n c, .slice A1 n1 c1] u fun e w'=> ∃x N,e= .returned x∧WoN l m x N∧Below u.heap.size u w'∧ ∀y∈N,u.heap.size≤y.1∧w'.heap[y.1]?=some y.2):=fun u hu=>callsW_some (HWO.out u hu) htk
   have HSB:Hid (IntKind.i64.wrap (m- wx)=m- wx):=wrapS (by have:=HWB.out;have:=H3O.out;have:=htb.2.2;omega)
   have HSP:=hD hsp
   clear hsn hss htk htb hsp
   go_enter func211,ntmps211
   go_upto_region 1 with (fail)
   generalize (w.alloc (.cells (txA ⟨r,A1,n1,c1,A2,n2,c2⟩) 77)).alloc (.cells (arrB 32 id) 26)=W at *
   refine rgQ [0,1,2] [3,4,5,6,7,8,9,10] E1 rfl fun hw=>?_
   refine qw 2 hw ?_
   refine ql rfl (mT mH) trivial hw ?_
   refine wpG_nil<|qr rfl func229 (fun u hu=>HWS.out u (EnvX.bel hu)) ?_
   rintro _ N0 ⟨v0,rfl,hF⟩ hf he2
   obtain⟨A3,c3,rfl,hc1,hc2⟩:=FreshR.formC hF
   have HF0:=hD hF
   have HC3:=hD (And.intro hc1 hc2)
   clear hF hc1 hc2
   clear hf
   refine phE [4,5,6,7,8,9,10] [] he2 fun hw=>?_
   refine qw 7 hw ?_
   refine enP fun u5 EX4=>?_
   have HCO:Hid (∀u M,EnvX w u M→(∀y∈N0,y∈M)→CoinsIn u u.heap.size A3 l):=fun u M hu hm=>own_cells (HF0.out.own (w:=u) (B:=0) (flat35 HTB.out.1.lens) (fun y hy=>⟨Nat.zero_le _,hu.box _ _ (hm y hy)⟩))
   go_upto_region 2 with (fail)
   refine rgQ [0,1,2,3,4,5] [] EX4 rfl fun hw=>?_
   refine qw 2 hw ?_
   refine ql rfl (mR (mT mH)) trivial hw ?_
   refine qc rfl func213 (fun u hu=>HWX.out u (EnvX.bel hu)) hw ?_
   refine qv rfl (fun u hu=>subZ_op u HSB.out rfl rfl) hw ?_
   refine qo rfl hw ?_
   refine enP fun u8 EX7=>?_
   by_cases hlt:m<wx
   · have C4:Hid (decide (m- wx<0)=true):=decide_eq_true (by omega)
     have HF:Hid (spendP p r=(p,0,8)):=by show _=_;rw[HSP.out,if_pos hlt]
     clear hlt
     go_upto_region 3 with (fail)
     refine rgQ [0,1,2,3,4,5,6] [] EX7 rfl fun hw=>?_
     refine qw 4 hw ?_
     refine qv rfl (fun u hu=>ltZ_op u C4.out rfl rfl) hw ?_
     refine qw 2 hw ?_
     refine enP fun u11 EX10=>?_
     go_upto_region 4 with (fail)
     refine rgQ [0,1,2] [] EX10 rfl fun hw=>?_
     refine qw 3 hw ?_
     refine enP fun u14 EX13=>?_
     have HBE:=hD (EnvX.bel EX13.out)
     go_wp2
     go_returns
     exact⟨SpE.mk (.slice none 0 0) HF.out (fun h=>by cases h),HBE.out⟩
   have C4:Hid (decide (m- wx<0)=false):=decide_eq_false (by omega)
   have HSP2:Hid (spendP p r=if thereP l id then (p,0,10)else if 48<(madeP l (newC id 0 r.outs)).length then (p,0,11)else (madeP l (newC id 0 r.outs),m- wx,0)):=by show _=_;rw[HSP.out,if_neg hlt]
   clear hlt HSP
   obtain⟨bt,hbt⟩: ∃bt,thereP l id=bt:=⟨_,rfl⟩
   have HBT:=hD hbt
   rw[hbt]at HSP2
   have HHS:Hid (∀u M,EnvX w u M→(∀y∈N0,y∈M)→Calls Tryz.prog 212 #[.slice A3 l.length c3,idv id] u fun e w'=>e= .returned (.bool bt)∧Below u.heap.size u w'):=fun u M hu hm=>by
     have h:=phas_any l A3 l.length c3 id u rfl (by have:=HTB.out.2.1;omega) HC3.out.1 HC3.out.2 HTB.out.1 HUP.out (HCO.out u M hu hm) HTB.out.2.2.2.2 HID.out
     rwa[hbt]at h
   clear hbt
   go_upto_region 3 with (fail)
   refine rgQ [0,1,2,3,4,5,6] [] EX7 rfl fun hw=>?_
   refine qw 4 hw ?_
   refine qv rfl (fun u hu=>ltZ_op u C4.out rfl rfl) hw ?_
   refine qw 2 hw ?_
   refine enP fun u11 EX10=>?_
   cases bt with
   | true=>
     have HF:Hid (spendP p r=(p,0,10)):=HSP2.out
     go_upto_region 5 with (fail)
     refine rgQ [0,1,2,3] [] EX10 rfl fun hw=>?_
     refine qo rfl hw ?_
     refine qv rfl (fun u hu=>load_any_op u (box_idvP hu (mR mH) HIL.out) rfl) hw ?_
     refine qc rfl func212 (fun u hu=>HHS.out u _ hu (fun y hy=>mL hy)) hw ?_
     refine qo rfl hw ?_
     refine enP fun u14 EX13=>?_
     go_upto_region 6 with (fail)
     refine rgQ [0,1,2] [] EX13 rfl fun hw=>?_
     refine qw 3 hw ?_
     refine enP fun u17 EX16=>?_
     have HBE:=hD (EnvX.bel EX16.out)
     go_wp2
     go_returns
     exact⟨SpE.mk (.slice none 0 0) HF.out (fun h=>by cases h),HBE.out⟩
   | false=>
     have HSP3:Hid (spendP p r=if 48<l.length+n2 then (p,0,11)else (madeP l (newC id 0 r.outs),m- wx,0)):=by
       show _=_
       rw[HSP2.out,madeP_len,newC_len,HL2.out,Nat.add_comm n2]
       rfl
     have HFU:Hid (∀u,Calls Tryz.prog 214 #[.slice A3 l.length c3, .slice A2 n2 c2] u fun e w'=>e= .returned (.bool (decide (48<l.length+n2)))∧Below u.heap.size u w'):=fun u=>pfull_any A3 l.length c3 A2 n2 c2 u (by have:=HTB.out.2.1;omega) (by have:=H3O.out;omega)
     clear HSP2
     go_upto_region 5 with (fail)
     refine rgQ [0,1,2,3] [] EX10 rfl fun hw=>?_
     refine qo rfl hw ?_
     refine qv rfl (fun u hu=>load_any_op u (box_idvP hu (mR mH) HIL.out) rfl) hw ?_
     refine qc rfl func212 (fun u hu=>HHS.out u _ hu (fun y hy=>mL hy)) hw ?_
     refine qo rfl hw ?_
     refine enP fun u14 EX13=>?_
     by_cases hf:48<l.length+n2
     · rw[decide_eq_true hf]at HFU
       have HF:Hid (spendP p r=(p,0,11)):=by show _=_;rw[HSP3.out,if_pos hf]
       clear hf
       go_upto_region 7 with (fail)
       refine rgQ [0,1,2,3,4] [] EX13 rfl fun hw=>?_
       refine qw 2 hw ?_
       refine ql rfl (mR (mT mH)) trivial hw ?_
       refine qc rfl func214 (fun u hu=>HFU.out u) hw ?_
       refine qo rfl hw ?_
       refine enP fun u17 EX16=>?_
       go_upto_region 8 with (fail)
       refine rgQ [0,1,2] [] EX16 rfl fun hw=>?_
       refine qw 3 hw ?_
       refine enP fun u20 EX19=>?_
       have HBE:=hD (EnvX.bel EX19.out)
       go_wp2
       go_returns
       exact⟨SpE.mk (.slice none 0 0) HF.out (fun h=>by cases h),HBE.out⟩
     · rw[decide_eq_false hf]at HFU
       have HF:Hid (spendP p r=(madeP l (newC id 0 r.outs),m- wx,0)):=by show _=_;rw[HSP3.out,if_neg hf]
       have HWI:Hid (∀u M,EnvX w u M→(∀y∈N0,y∈M)→Calls Tryz.prog 215 #[.slice A3 l.length c3,idv id, .slice A2 n2 c2] u fun e w'=>(∃v,e= .returned v∧w'.ownsRow u.heap.size 137 35 v (madeP l (newC id 0 r.outs)).length ((madeP l (newC id 0 r.outs)).map coC).flatten)∧Below u.heap.size u w'):=fun u M hu hm=>
        pwith_any l A3 l.length c3 id r.outs A2 n2 c2 u rfl (by have:=HTB.out.2.1;omega) HC3.out.1 HC3.out.2 HTB.out.1 HUP.out (HCO.out u M hu hm) HID.out HBT.out HL2.out (by have:=H3O.out;omega) (by have:=H3O.out;omega) HOO.out (CellsIn.up HM2.out (EnvX.bel hu))
       have HMO:Hid (okP (madeP l (newC id 0 r.outs))):=madeP_ok HTB.out.1 (newC_ok HID.out (fun o ho=>HOO.out o ho) (by rw[HL2.out];have:=H3O.out;omega))
       clear hf HSP3
       generalize madeP l (newC id 0 r.outs)=q9 at *
       go_upto_region 7 with (fail)
       refine rgQ [0,1,2,3,4] [] EX13 rfl fun hw=>?_
       refine qw 2 hw ?_
       refine ql rfl (mR (mT mH)) trivial hw ?_
       refine qc rfl func214 (fun u hu=>HFU.out u) hw ?_
       refine qo rfl hw ?_
       refine enP fun u17 EX16=>?_
       go_upto_region 9 with (fail)
       refine rgQ [0,1,2,3] [4,5,6,7,8] EX16 rfl fun hw=>?_
       refine qo rfl hw ?_
       refine qv rfl (fun u hu=>load_any_op u (box_idvP hu (mR mH) HIL.out) rfl) hw ?_
       refine qf rfl hw ?_
       refine ql rfl (mR (mT mH)) trivial hw ?_
       refine wpG_nil<|qr rfl func215 (fun u hu=>callsR_fresh (HWI.out u _ hu (fun y hy=>mL hy))) ?_
       rintro x9 N9 hF hf he19
       have HF9:=hD (And.intro hF hf)
       clear hF
       clear hf
       refine phE [5,6,7,8] [] he19 fun hw=>?_
       refine qw 4 hw ?_
       refine enP fun u22 EX21=>?_
       have HOW:=hD (HF9.out.1.own (w:=u22) (B:=w.heap.size) (flat35 HMO.out.lens) (fun y hy=>⟨(HF9.out.2 y hy).1,EnvX.box EX21.out _ _ (mL hy)⟩))
       have HBE:=hD (EnvX.bel EX21.out)
       go_wp2
       go_returns
       exact⟨SpE.mk x9 HF.out (fun _=>HOW.out),HBE.out⟩
theorem pspend_any(p:List CoinR)(A:Option Addr)(n c:Nat)(r:TxR)(A1:Option Addr)(n1 c1:Nat)(A2:Option Addr)(n2 c2:Nat)(w:World)(hl:p.length=n)(hnc:n≤c)(hcm:c≤maxLen)(hI:okP p)(hA:CoinsIn w w.heap.size A p)(ht:TxOk w ⟨r,A1,n1,c1,A2,n2,c2⟩)(htt:Tables w):
  Calls Tryz.prog 182 #[.slice A n c,txV ⟨r,A1,n1,c1,A2,n2,c2⟩] w fun e w'=>SpE p r w' w.heap.size e∧Below w.heap.size w w':=by
 have HMY:Hid (Rb w 181 #[.slice A n c] (.bool (mayP p))):=fun u hu=>pmayP_any p A n c u hl hnc hcm hI (CellsIn.up hA hu)
 have HTM:Hid (Rb w 210 #[txV ⟨r,A1,n1,c1,A2,n2,c2⟩] (.bool (mayX r))):=fun u hu=>mayP_any ⟨r,A1,n1,c1,A2,n2,c2⟩ u (ht.up hu)
 have HCI:Hid (Rb w 133 #[txV ⟨r,A1,n1,c1,A2,n2,c2⟩] (idv (idX r))):=fun u hu=>pidX_any ⟨r,A1,n1,c1,A2,n2,c2⟩ u (ht.up hu) (htt.below hu)
 have HEX:Hid (mayP p=true→mayX r=true→r.ins≠[]→ ∀u,Below w.heap.size w u→Calls Tryz.prog 211 #[.slice A n c,txV ⟨r,A1,n1,c1,A2,n2,c2⟩,idv (idX r)] u fun e w'=>SpE p r w' u.heap.size e∧Below u.heap.size u w'):=fun k1 k2 k3 u hu=>
  pexchange_any p A n c r A1 n1 c1 A2 n2 c2 u hl hnc hcm hI (CellsIn.up hA hu) (ht.up hu) k1 k2 k3
 have HM63:Hid (n1<9223372036854775808):=ht.n63.1
 have hl1:r.ins.length=n1:=ht.l1
 have E1:Hid (EnvX w (w.alloc (.cells (txA ⟨r,A1,n1,c1,A2,n2,c2⟩) 77)) [(w.heap.size,oc (txA ⟨r,A1,n1,c1,A2,n2,c2⟩) 77)]):=(EnvX.start w).new _
 have hs1:mayP p=false→spendP p r=(p,0,1):=fun h=>spend_arg1 h
 have hs2:mayX r=false→spendP p r=(p,0,1):=fun h=>spend_arg2 h
 have hs3:n1=0→spendP p r=(p,0,1):=fun h=>spend_arg3 (List.eq_nil_of_length_eq_zero (by rw[hl1,h]))
 have hs4:n1≠0→r.ins≠[]:=fun h e=>h (by rw[←hl1,e];rfl)
 clear hl hnc hcm hI hA ht htt hl1
 unfold txV at *
 obtain⟨id,hid⟩: ∃id,idX r=id:=⟨_,rfl⟩
 rw[hid]at HCI HEX
 clear hid
 obtain⟨b1,h1⟩: ∃b1,mayP p=b1:=⟨_,rfl⟩
 obtain⟨b2,h2⟩: ∃b2,mayX r=b2:=⟨_,rfl⟩
 rw[h1]at HMY HEX hs1
 rw[h2]at HTM HEX hs2
 clear h1 h2
 cases b1 with
 |false=>
  have HF:Hid (spendP p r=(p,0,1)):=hs1 rfl
  clear hs1 hs2 hs3 hs4 HEX
  go_enter func182,ntmps182
  go_upto_region 1 with (fail)
  generalize w.alloc (.cells (txA ⟨r,A1,n1,c1,A2,n2,c2⟩) 77)=W at *
  refine rgQ [0,1,2,3,4,5,6,7,8,9,10,11,12,13] [] E1 rfl fun hw=>?_
  refine qo rfl hw ?_
  refine qc rfl func181 (fun u hu=>HMY.out u (EnvX.bel hu)) hw ?_
  refine qw 12 hw ?_
  refine enP fun u3 EX2=>?_
  go_upto_region 2 with (fail)
  refine rgQ [0,1,2] [] EX2 rfl fun hw=>?_
  refine qw 3 hw ?_
  refine enP fun u6 EX5=>?_
  have HBE:=hD (EnvX.bel EX5.out)
  go_wp2
  go_returns
  exact⟨SpE.mk (.slice none 0 0) HF.out (fun h=>by cases h),HBE.out⟩
 | true=>
  cases b2 with
  |false=>
   have HF:Hid (spendP p r=(p,0,1)):=hs2 rfl
   clear hs1 hs2 hs3 hs4 HEX
   go_enter func182,ntmps182
   go_upto_region 1 with (fail)
   generalize w.alloc (.cells (txA ⟨r,A1,n1,c1,A2,n2,c2⟩) 77)=W at *
   refine rgQ [0,1,2,3,4,5,6,7,8,9,10,11,12,13] [] E1 rfl fun hw=>?_
   refine qo rfl hw ?_
   refine qc rfl func181 (fun u hu=>HMY.out u (EnvX.bel hu)) hw ?_
   refine qw 2 hw ?_
   refine ql rfl mH trivial hw ?_
   refine qc rfl func210 (fun u hu=>HTM.out u (EnvX.bel hu)) hw ?_
   refine qw 8 hw ?_
   refine enP fun u3 EX2=>?_
   go_upto_region 2 with (fail)
   refine rgQ [0,1,2] [] EX2 rfl fun hw=>?_
   refine qw 3 hw ?_
   refine enP fun u6 EX5=>?_
   have HBE:=hD (EnvX.bel EX5.out)
   go_wp2
   go_returns
   exact⟨SpE.mk (.slice none 0 0) HF.out (fun h=>by cases h),HBE.out⟩
  |true=>
   by_cases hz:n1=0
   · have HF:Hid (spendP p r=(p,0,1)):=hs3 hz
     have C12:Hid (decide ((n1:Int)=0)=true):=decide_eq_true (by omega)
     clear hs1 hs2 hs3 hs4 HEX hz
     go_enter func182,ntmps182
     go_upto_region 1 with (fail)
     generalize w.alloc (.cells (txA ⟨r,A1,n1,c1,A2,n2,c2⟩) 77)=W at *
     refine rgQ [0,1,2,3,4,5,6,7,8,9,10,11,12,13] [] E1 rfl fun hw=>?_
     refine qo rfl hw ?_
     refine qc rfl func181 (fun u hu=>HMY.out u (EnvX.bel hu)) hw ?_
     refine qw 2 hw ?_
     refine ql rfl mH trivial hw ?_
     refine qc rfl func210 (fun u hu=>HTM.out u (EnvX.bel hu)) hw ?_
     refine qw 4 hw ?_
     refine ql rfl mH trivial hw ?_
     refine qv rfl (fun u hu=>len_op underlying74 HM63.out u rfl) hw ?_
     refine qv rfl (fun u hu=>eqlI_op u C12.out rfl rfl) hw ?_
     refine qo rfl hw ?_
     refine enP fun u3 EX2=>?_
     go_upto_region 2 with (fail)
     refine rgQ [0,1,2] [] EX2 rfl fun hw=>?_
     refine qw 3 hw ?_
     refine enP fun u6 EX5=>?_
     have HBE:=hD (EnvX.bel EX5.out)
     go_wp2
     go_returns
     exact⟨SpE.mk (.slice none 0 0) HF.out (fun h=>by cases h),HBE.out⟩
   · have HEX2:=hD (HEX.out rfl rfl (hs4 hz))
     have C12:Hid (decide ((n1:Int)=0)=false):=decide_eq_false (by omega)
     clear hs1 hs2 hs3 hs4 HEX hz
     go_enter func182,ntmps182
     go_upto_region 1 with (fail)
     generalize w.alloc (.cells (txA ⟨r,A1,n1,c1,A2,n2,c2⟩) 77)=W at *
     refine rgQ [0,1,2,3,4,5,6,7,8,9,10,11,12,13] [] E1 rfl fun hw=>?_
     refine qo rfl hw ?_
     refine qc rfl func181 (fun u hu=>HMY.out u (EnvX.bel hu)) hw ?_
     refine qw 2 hw ?_
     refine ql rfl mH trivial hw ?_
     refine qc rfl func210 (fun u hu=>HTM.out u (EnvX.bel hu)) hw ?_
     refine qw 4 hw ?_
     refine ql rfl mH trivial hw ?_
     refine qv rfl (fun u hu=>len_op underlying74 HM63.out u rfl) hw ?_
     refine qv rfl (fun u hu=>eqlI_op u C12.out rfl rfl) hw ?_
     refine qo rfl hw ?_
     refine enP fun u3 EX2=>?_
     go_upto_region 3 with (fail)
     refine rgK [0,1,2,3] 7 EX2 rfl fun hw=>?_
     refine qo rfl hw ?_
     refine ql rfl mH trivial hw ?_
     refine ql rfl mH trivial hw ?_
     refine qc rfl func133 (fun u hu=>HCI.out u (EnvX.bel hu)) hw ?_
     refine wpG_nil<|aO 4 (qr rfl func211 (fun u hu=>callsS_fresh (HEX2.out u (EnvX.bel hu))) ?_)
     rintro _ N9 ⟨v9,rfl,hF⟩ hf he5
     have HF9:=hD (And.intro hF hf)
     clear hF
     clear hf
     refine phF [5,6,7,8,9,10] 0 rfl he5 fun hw=>?_
     refine qw 6 hw ?_
     refine eH fun u8 EX7=>?_
     have HBE:=hD (EnvX.bel EX7.out)
     have HOW:Hid ((spendP p r).2.2=0→World.ownsRow u8 w.heap.size 137 35 v9 (spendP p r).1.length (((spendP p r).1).map coC).flatten):=fun h0=>by
      have hF:=HF9.out.1 h0
      have hlen:(((spendP p r).1).map coC).flatten.length=(spendP p r).1.length*35:=FreshR.lenOf hF
      exact hF.own hlen (fun y hy=>⟨(HF9.out.2 y hy).1,EnvX.box EX7.out _ _ (mL hy)⟩)
     go_wp2
     go_returns
     exact⟨SpE.mk v9 rfl HOW.out,HBE.out⟩
def mintR(q:List CoinR)(r:TxR)(k:Int):List CoinR × Nat:=if mayX r=false then ([],1)else if thereP q (idX r)then ([],10)else if k<worthX r then ([],8)else if 48<(madeP q (newC (idX r) 0 r.outs)).length then ([],11)else (madeP q (newC (idX r) 0 r.outs),0)
theorem mintR_apply{p:List CoinR}{l:List TxR}(h:mayP p=true)(h2: ¬4<l.length){q:List CoinR}{m:Int}(hr:runP p 0 (if loneX l then l.tail else l)= .ok (q,m))(hl:loneX l=true)(d:TxR):(applyP p l).2=(mintR q (l.getD 0 d) (50+m)).2∧((applyP p l).2=0→(applyP p l).1=(mintR q (l.getD 0 d) (50+m)).1):=by
 rw[apply_lone h h2 hr hl d]
 unfold mintR
 split
 · exact⟨rfl,fun h=>by cases h⟩
 · split
   · exact⟨rfl,fun h=>by cases h⟩
   · split
     · exact⟨rfl,fun h=>by cases h⟩
     · split
       · exact⟨rfl,fun h=>by cases h⟩
       · exact⟨rfl,fun _=>rfl⟩
theorem apply_wrong{p:List CoinR}(hp:idP p)(l:List TxR)(h:(applyP p l).2≠0):(applyP p l).1=p:=by
 cases hm:mayP p with
 |true=>exact(apply_all hp hm l).2.2.2 h
 |false=>rw[apply_arg hm]
def ApE(a:List CoinR × Nat)(w:World)(B:Nat)(e:Ending):Prop:= ∃v,e= .returned (.tuple #[v, .int .i64 (a.2:Int)])∧(a.2=0→w.ownsRow B 137 35 v a.1.length ((a.1).map coC).flatten)
theorem ApE.mk{a:List CoinR × Nat}{w:World}{B:Nat}{k:Nat}(v:Value)(h:a.2=k)(hv:k=0→w.ownsRow B 137 35 v a.1.length ((a.1).map coC).flatten):ApE a w B (.returned (.tuple #[v, .int .i64 (k:Int)])):=⟨v,by rw[h],by rw[h];exact hv⟩
def ApN(a:List CoinR × Nat)(x:Value)(N:Boxes):Prop:= ∃v,x= .tuple #[v, .int .i64 (a.2:Int)]∧(a.2=0→FreshR 137 35 a.1.length ((a.1).map coC).flatten v N)
theorem callsA_fresh{f:FuncId}{args:Array Value}{u:World}{a:List CoinR × Nat}(h:Calls Tryz.prog f args u fun e w'=>ApE a w' u.heap.size e∧Below u.heap.size u w'):
  Calls Tryz.prog f args u fun e w'=> ∃x N,e= .returned x∧ApN a x N∧Below u.heap.size u w'∧ ∀y∈N,u.heap.size≤y.1∧w'.heap[y.1]?=some y.2:=
 h.mono fun e w'⟨⟨v,he,hv⟩,hb⟩=>by
  by_cases h0:a.2=0
  · obtain⟨N,hF,hN⟩:=fresh_of_own (hv h0)
    exact⟨_,N,he,⟨v,rfl,fun _=>hF⟩,hb,fun y hy=>⟨(hN y hy).1,(hN y hy).2.1⟩⟩
  · exact⟨_,[],he,⟨v,rfl,fun h=>absurd h h0⟩,hb,fun y hy=>by cases hy⟩
theorem TxsIn.tail{w:World}{A:Option Addr}{l:List TxM}{c:Nat}(h:TxsIn w A l)(hc:l.length≤c)(h1:1≤l.length):TxsIn w (cutX 2 A 1 c) l.tail:=by
 refine⟨?_,fun t ht=>h.each t (List.mem_of_mem_tail ht)⟩
 have hf:=(rowsTx l).flat_drop 1
 have e:(l.tail.map txC).flatten=((l.map txC).flatten).drop (1*2):=by
  rw[←hf,←List.map_drop,List.drop_one]
 rw[e]
 refine CellsIn.drop h.cells 2 1 c ?_
 rcases Nat.lt_or_ge 1 c with h'|h'
 · exact .inl h'
 · refine .inr ?_
   rw[(rowsTx l).flat_len,lM]
   omega
section
variable {a:Act}{dst:Option Tmp}{x y:Operand}{ty:TypeId}{pos:String}{after:Array Edge}{gd:Option (Nat × Bool)}
theorem idxSlH_op{t e:TypeId}{z:Nat}(hu:Tryz.prog.underlying t=some (.slice e))(hz:(Tryz.prog.info? e).map (·.size)=some z){A:Option Addr}{ad:Addr}{n c i:Nat}(hi:i<n)(hA:A=some ad)(u:World)
  (hx:a.eval x= .slice A n c) (hy:a.eval y= .int .i64 (i:Int)):
  (execOp a.eval ⟨dst, .indexAddr t x y,ty,pos,after,gd⟩).run Tryz.prog u= .ok (.value (.pointer (some (ad.add (i*z))))) u:=by
 subst hA
 exact idxSl_op hu hz hi u hx hy
end
theorem pmint_any(p:List CoinR)(A:Option Addr)(n c:Nat)(r:TxR)(A1:Option Addr)(n1 c1:Nat)(A2:Option Addr)(n2 c2:Nat)(k:Int)(w:World)(hl:p.length=n)(hn:n≤1000)(hnc:n≤c)(hcm:c≤maxLen)(hI:okP p)(hup:upP p)(hA:CoinsIn w w.heap.size A p)(hb: ∀c∈p,boundC c=true)(ht:TxOk w ⟨r,A1,n1,c1,A2,n2,c2⟩):
  Calls Tryz.prog 183 #[.slice A n c,txV ⟨r,A1,n1,c1,A2,n2,c2⟩,idv (idX r), .int .i64 k] w fun e w'=>ApE (mintR p r k) w' w.heap.size e∧Below w.heap.size w w':=by
 have hid:=idX_id r
 have hl2:r.outs.length=n2:=ht.l2
 have HL2:=hD hl2
 have HL:=hD hl
 have HN1:Hid (n≤1000):=hn
 have HTM:Hid (Rb w 210 #[txV ⟨r,A1,n1,c1,A2,n2,c2⟩] (.bool (mayX r))):=fun u hu=>mayP_any ⟨r,A1,n1,c1,A2,n2,c2⟩ u (ht.up hu)
 have HHS:Hid (Rb w 212 #[.slice A n c,idv (idX r)] (.bool (thereP p (idX r)))):=fun u hu=>phas_any p A n c (idX r) u hl hn hnc hcm hI hup (CellsIn.up hA hu) hb hid
 have HWX:Hid (mayX r=true→n2≤3∧1≤n2∧ ∀u,Below w.heap.size w u→Calls Tryz.prog 213 #[.slice A2 n2 c2] u fun e w'=>e= .returned (.int .i64 (worthX r))∧Below u.heap.size u w'):=fun hm=>by
  have hm3:=mayX_iff.1 hm
  have h3:n2≤3:=by rw[←hl2];exact hm3.2.2.1
  exact⟨h3,by rw[←hl2];exact hm3.2.1,fun u hu=>pworth_any r.outs A2 n2 c2 u hl2 (by omega) (ht.m2.up hu) (fun o ho=>decide_eq_true (hm3.2.2.2.2.2 o ho))⟩
 have HWI:Hid (thereP p (idX r)=false→n2≤3→1≤n2→ ∀u,Below w.heap.size w u→Calls Tryz.prog 215 #[.slice A n c,idv (idX r), .slice A2 n2 c2] u fun e w'=>(∃v,e= .returned v∧w'.ownsRow u.heap.size 137 35 v (madeP p (newC (idX r) 0 r.outs)).length ((madeP p (newC (idX r) 0 r.outs)).map coC).flatten)∧Below u.heap.size u w'):=fun hth h3 h1 u hu=>
  pwith_any p A n c (idX r) r.outs A2 n2 c2 u hl hn hnc hcm hI hup (CellsIn.up hA hu) hid hth hl2 (by omega) (by omega) ht.o2 (CellsIn.up ht.m2 hu)
 have HMO:Hid (n2≤3→okP (madeP p (newC (idX r) 0 r.outs))):=fun h3=>madeP_ok hI (newC_ok hid (fun o ho=>ht.o2 o ho) (by rw[hl2];omega))
 have HML:Hid ((madeP p (newC (idX r) 0 r.outs)).length=n+n2):=by show _=_;rw[madeP_len,newC_len,hl,hl2,Nat.add_comm]
 have hmr:mintR p r k=if mayX r=false then ([],1)else if thereP p (idX r)then ([],10)else if k<worthX r then ([],8)else if 48<(madeP p (newC (idX r) 0 r.outs)).length then ([],11)else (madeP p (newC (idX r) 0 r.outs),0):=rfl
 have E1:Hid (EnvX w ((w.alloc (.cells (txA ⟨r,A1,n1,c1,A2,n2,c2⟩) 77)).alloc (.cells (arrB 32 (idX r)) 26)) [(w.heap.size+1,oc (arrB 32 (idX r)) 26),(w.heap.size,oc (txA ⟨r,A1,n1,c1,A2,n2,c2⟩) 77)]):=(EnvX.start w).two _ _
 rw[HML.out]at hmr
 have HIL:Hid ((idX r).length=32):=hid.1
 clear hl hn hnc hcm hI hup hA hb ht hl2 hid
 generalize madeP p (newC (idX r) 0 r.outs)=q9 at *
 generalize idX r=id at *
 generalize mintR p r k=mr at *
 have HMR:=hD hmr
 clear hmr
 obtain⟨b1,h1⟩: ∃b1,mayX r=b1:=⟨_,rfl⟩
 obtain⟨b2,h2⟩: ∃b2,thereP p id=b2:=⟨_,rfl⟩
 rw[h1]at HTM HWX HMR
 rw[h2]at HHS HWI HMR
 clear h1 h2
 unfold txV idv at *
 cases b1 with
 |false=>
  have HF:Hid (mr.2=1):=by show _=_;rw[HMR.out];rfl
  go_enter func183,ntmps183
  go_upto_region 1 with (fail)
  generalize (w.alloc (.cells (txA ⟨r,A1,n1,c1,A2,n2,c2⟩) 77)).alloc (.cells (arrB 32 id) 26)=W at *
  refine rgQ [0,1,2,3] [] E1 rfl fun hw=>?_
  refine ql rfl (mT mH) trivial hw ?_
  refine qc rfl func210 (fun u hu=>HTM.out u (EnvX.bel hu)) hw ?_
  refine qw 2 hw ?_
  refine enP fun u3 EX2=>?_
  go_upto_region 2 with (fail)
  refine rgQ [0,1] [] EX2 rfl fun hw=>?_
  refine qw 2 hw ?_
  refine enP fun u6 EX5=>?_
  have HBE:=hD (EnvX.bel EX5.out)
  go_wp2
  go_returns
  exact⟨ApE.mk (k:=1) (.slice none 0 0) HF.out (fun h=>by cases h),HBE.out⟩
 | true=>
  obtain⟨h3,h31,hwx⟩:=HWX.out rfl
  have H3:=hD (And.intro h3 h31)
  have HW2:=hD hwx
  clear HWX h3 h31 hwx
  go_enter func183,ntmps183
  go_upto_region 1 with (fail)
  generalize (w.alloc (.cells (txA ⟨r,A1,n1,c1,A2,n2,c2⟩) 77)).alloc (.cells (arrB 32 id) 26)=W at *
  refine rgQ [0,1,2,3] [] E1 rfl fun hw=>?_
  refine ql rfl (mT mH) trivial hw ?_
  refine qc rfl func210 (fun u hu=>HTM.out u (EnvX.bel hu)) hw ?_
  refine qw 2 hw ?_
  refine enP fun u3 EX2=>?_
  cases b2 with
  |true=>
   have HF:Hid (mr.2=10):=by show _=_;rw[HMR.out];rfl
   go_upto_region 3 with (fail)
   refine rgQ [0,1,2,3] [] EX2 rfl fun hw=>?_
   refine qo rfl hw ?_
   refine qv rfl (fun u hu=>load_any_op u (box_idvP hu mH HIL.out) rfl) hw ?_
   refine qc rfl func212 (fun u hu=>HHS.out u (EnvX.bel hu)) hw ?_
   refine qo rfl hw ?_
   refine enP fun u6 EX5=>?_
   go_upto_region 4 with (fail)
   refine rgQ [0,1] [] EX5 rfl fun hw=>?_
   refine qw 2 hw ?_
   refine enP fun u9 EX8=>?_
   have HBE:=hD (EnvX.bel EX8.out)
   go_wp2
   go_returns
   exact⟨ApE.mk (k:=10) (.slice none 0 0) HF.out (fun h=>by cases h),HBE.out⟩
  |false=>
   have HW3:=hD (HWI.out rfl H3.out.1 H3.out.2)
   have HMR2:Hid (mr=if k<worthX r then ([],8)else if 48<n+n2 then ([],11)else (q9,0)):=HMR.out
   clear HWI HMR
   generalize worthX r=wx at *
   go_upto_region 3 with (fail)
   refine rgQ [0,1,2,3] [] EX2 rfl fun hw=>?_
   refine qo rfl hw ?_
   refine qv rfl (fun u hu=>load_any_op u (box_idvP hu mH HIL.out) rfl) hw ?_
   refine qc rfl func212 (fun u hu=>HHS.out u (EnvX.bel hu)) hw ?_
   refine qo rfl hw ?_
   refine enP fun u6 EX5=>?_
   by_cases hk:k<wx
   · have C5:Hid (decide (k<wx)=true):=decide_eq_true hk
     have HF:Hid (mr.2=8):=by show _=_;rw[HMR2.out,if_pos hk]
     clear hk
     go_upto_region 5 with (fail)
     refine rgQ [0,1,2,3,4,5] [] EX5 rfl fun hw=>?_
     refine qf rfl hw ?_
     refine ql rfl (mT mH) trivial hw ?_
     refine qc rfl func213 (fun u hu=>HW2.out u (EnvX.bel hu)) hw ?_
     refine qo rfl hw ?_
     refine qv rfl (fun u hu=>gtZ_op u C5.out rfl rfl) hw ?_
     refine qo rfl hw ?_
     refine enP fun u9 EX8=>?_
     go_upto_region 6 with (fail)
     refine rgQ [0,1] [] EX8 rfl fun hw=>?_
     refine qw 2 hw ?_
     refine enP fun u12 EX11=>?_
     have HBE:=hD (EnvX.bel EX11.out)
     go_wp2
     go_returns
     exact⟨ApE.mk (k:=8) (.slice none 0 0) HF.out (fun h=>by cases h),HBE.out⟩
   have C5:Hid (decide (k<wx)=false):=decide_eq_false hk
   have HMR3:Hid (mr=if 48<n+n2 then ([],11)else (q9,0)):=by show _=_;rw[HMR2.out,if_neg hk]
   have HFU:Hid (∀u,Calls Tryz.prog 214 #[.slice A n c, .slice A2 n2 c2] u fun e w'=>e= .returned (.bool (decide (48<n+n2)))∧Below u.heap.size u w'):=fun u=>pfull_any A n c A2 n2 c2 u (by have:=HN1.out;omega) (by have:=H3.out;omega)
   clear hk HMR2
   go_upto_region 5 with (fail)
   refine rgQ [0,1,2,3,4,5] [] EX5 rfl fun hw=>?_
   refine qf rfl hw ?_
   refine ql rfl (mT mH) trivial hw ?_
   refine qc rfl func213 (fun u hu=>HW2.out u (EnvX.bel hu)) hw ?_
   refine qo rfl hw ?_
   refine qv rfl (fun u hu=>gtZ_op u C5.out rfl rfl) hw ?_
   refine qo rfl hw ?_
   refine enP fun u9 EX8=>?_
   by_cases hf:48<n+n2
   · rw[decide_eq_true hf]at HFU
     have HF:Hid (mr.2=11):=by show _=_;rw[HMR3.out,if_pos hf]
     clear hf
     go_upto_region 7 with (fail)
     refine rgQ [0,1,2,3,4] [] EX8 rfl fun hw=>?_
     refine qw 2 hw ?_
     refine ql rfl (mT mH) trivial hw ?_
     refine qc rfl func214 (fun u hu=>HFU.out u) hw ?_
     refine qo rfl hw ?_
     refine enP fun u12 EX11=>?_
     go_upto_region 8 with (fail)
     refine rgQ [0,1] [] EX11 rfl fun hw=>?_
     refine qw 2 hw ?_
     refine enP fun u15 EX14=>?_
     have HBE:=hD (EnvX.bel EX14.out)
     go_wp2
     go_returns
     exact⟨ApE.mk (k:=11) (.slice none 0 0) HF.out (fun h=>by cases h),HBE.out⟩
   · rw[decide_eq_false hf]at HFU
     have HF:Hid (mr.2=0):=by show _=_;rw[HMR3.out,if_neg hf]
     have HQ:Hid (mr.1=q9):=by show _=_;rw[HMR3.out,if_neg hf]
     clear hf HMR3
     go_upto_region 7 with (fail)
     refine rgQ [0,1,2,3,4] [] EX8 rfl fun hw=>?_
     refine qw 2 hw ?_
     refine ql rfl (mT mH) trivial hw ?_
     refine qc rfl func214 (fun u hu=>HFU.out u) hw ?_
     refine qo rfl hw ?_
     refine enP fun u12 EX11=>?_
     go_upto_region 9 with (fail)
     refine rgQ [0,1,2,3] [4,5,6] EX11 rfl fun hw=>?_
     refine qo rfl hw ?_
     refine qv rfl (fun u hu=>load_any_op u (box_idvP hu mH HIL.out) rfl) hw ?_
     refine qf rfl hw ?_
     refine ql rfl (mT mH) trivial hw ?_
     refine wpG_nil<|qr rfl func215 (fun u hu=>callsR_fresh (HW3.out u (EnvX.bel hu))) ?_
     rintro x9 N9 hF hf he14
     have HF9:=hD (And.intro hF hf)
     clear hF
     clear hf
     refine phE [5,6] [] he14 fun hw=>?_
     refine qw 2 hw ?_
     refine enP fun u17 EX16=>?_
     have HOW:=hD (HF9.out.1.own (w:=u17) (B:=w.heap.size) (FreshR.lenOf HF9.out.1) (fun y hy=>⟨(HF9.out.2 y hy).1,EnvX.box EX16.out _ _ (mL hy)⟩))
     have HBE:=hD (EnvX.bel EX16.out)
     go_wp2
     go_returns
     exact⟨ApE.mk (k:=0) x9 HF.out (fun _=>by rw[HQ.out];exact HOW.out),HBE.out⟩
theorem papply_arg(p:List CoinR)(A:Option Addr)(n c:Nat)(l:List TxM)(A':Option Addr)(n' c':Nat)(w:World)(hl:p.length=n)(hnc:n≤c)(hcm:c≤maxLen)(hI:okP p)(hA:CoinsIn w w.heap.size A p)(hl':l.length=n')(hnc':n'≤c')(hcm':c'≤maxLen)(hA':TxsIn w A' l)(htt:Tables w)(k1:mayP p=false):
  Calls Tryz.prog 132 #[.slice A n c, .slice A' n' c'] w fun e w'=>ApE (applyP p (rsT l)) w' w.heap.size e∧Below w.heap.size w w':=by
 have HMY:Hid (Rb w 181 #[.slice A n c] (.bool (mayP p))):=fun u hu=>pmayP_any p A n c u hl hnc hcm hI (CellsIn.up hA hu)
 have HM63:Hid (n'<9223372036854775808):=by show _<_;unfold maxLen at hcm';omega
 have E1:Hid (EnvX w w []):=EnvX.start w
 have HF:Hid ((applyP p (rsT l)).2=1):=by show _=_;rw[apply_arg k1]
 rw[k1]at HMY
 clear k1 hl hnc hcm hI hA hl' hnc' hcm' hA' htt
 go_enter func132,ntmps132
 go_upto_region 1 with (fail)
 refine rgQ [0,1,2] [] E1 rfl fun hw=>?_
 refine qo rfl hw ?_
 refine qc rfl func181 (fun u hu=>HMY.out u (EnvX.bel hu)) hw ?_
 refine qo rfl hw ?_
 refine enP fun u3 EX2=>?_
 go_upto_region 2 with (fail)
 refine rgQ [0,1] [] EX2 rfl fun hw=>?_
 refine qw 2 hw ?_
 refine enP fun u6 EX5=>?_
 have HBE:=hD (EnvX.bel EX5.out)
 go_wp2
 go_returns
 exact⟨ApE.mk (k:=1) (.slice none 0 0) HF.out (fun h=>by cases h),HBE.out⟩
theorem papply_size(p:List CoinR)(A:Option Addr)(n c:Nat)(l:List TxM)(A':Option Addr)(n' c':Nat)(w:World)(hl:p.length=n)(hnc:n≤c)(hcm:c≤maxLen)(hI:okP p)(hA:CoinsIn w w.heap.size A p)(hl':l.length=n')(hnc':n'≤c')(hcm':c'≤maxLen)(hA':TxsIn w A' l)(htt:Tables w)(k1:mayP p=true)(k2:4<n'):
  Calls Tryz.prog 132 #[.slice A n c, .slice A' n' c'] w fun e w'=>ApE (applyP p (rsT l)) w' w.heap.size e∧Below w.heap.size w w':=by
 have HMY:Hid (Rb w 181 #[.slice A n c] (.bool (mayP p))):=fun u hu=>pmayP_any p A n c u hl hnc hcm hI (CellsIn.up hA hu)
 have HM63:Hid (n'<9223372036854775808):=by show _<_;unfold maxLen at hcm';omega
 have E1:Hid (EnvX w w []):=EnvX.start w
 have HF:Hid ((applyP p (rsT l)).2=3):=by show _=_;rw[apply_size k1 (by unfold rsT;rw[lM,hl'];exact k2)]
 have D4:Hid (decide ((4:Int)<(n':Int))=true):=decide_eq_true (by omega)
 rw[k1]at HMY
 clear k1 k2 hl hnc hcm hI hA hl' hnc' hcm' hA' htt
 go_enter func132,ntmps132
 go_upto_region 1 with (fail)
 refine rgQ [0,1,2] [] E1 rfl fun hw=>?_
 refine qo rfl hw ?_
 refine qc rfl func181 (fun u hu=>HMY.out u (EnvX.bel hu)) hw ?_
 refine qo rfl hw ?_
 refine enP fun u3 EX2=>?_
 go_upto_region 3 with (fail)
 refine rgQ [0,1,2] [] EX2 rfl fun hw=>?_
 refine qo rfl hw ?_
 refine qv rfl (fun u hu=>len_op underlying23 HM63.out u rfl) hw ?_
 refine qv rfl (fun u hu=>gtZ_op u D4.out rfl rfl) hw ?_
 refine enP fun u6 EX5=>?_
 go_upto_region 4 with (fail)
 refine rgQ [0,1] [] EX5 rfl fun hw=>?_
 refine qw 2 hw ?_
 refine enP fun u9 EX8=>?_
 have HBE:=hD (EnvX.bel EX8.out)
 go_wp2
 go_returns
 exact⟨ApE.mk (k:=3) (.slice none 0 0) HF.out (fun h=>by cases h),HBE.out⟩
theorem papply_mainA(p:List CoinR)(A:Option Addr)(n c:Nat)(l:List TxM)(A':Option Addr)(n' c':Nat)(w:World)(hl:p.length=n)(hnc:n≤c)(hcm:c≤maxLen)(hI:okP p)(hA:CoinsIn w w.heap.size A p)(hl':l.length=n')(hnc':n'≤c')(hcm':c'≤maxLen)(hA':TxsIn w A' l)(htt:Tables w)(k1:mayP p=true)(k2: ¬4<n')(k3:n'=0):
  Calls Tryz.prog 132 #[.slice A n c, .slice A' n' c'] w fun e w'=>ApE (applyP p (rsT l)) w' w.heap.size e∧Below w.heap.size w w':=by
 have HMY:Hid (Rb w 181 #[.slice A n c] (.bool (mayP p))):=fun u hu=>pmayP_any p A n c u hl hnc hcm hI (CellsIn.up hA hu)
 have HM63:Hid (n'<9223372036854775808):=by show _<_;unfold maxLen at hcm';omega
 have E1:Hid (EnvX w w []):=EnvX.start w
 have D4:Hid (decide ((4:Int)<(n':Int))=false):=decide_eq_false (by omega)
 have HK:=hD k1
 have HK2:Hid (n'≤4):=by show _≤_;omega
 have HRL:Hid ((rsT l).length=n'):=by show _=_;unfold rsT;rw[lM,hl']
 have HTT:=hD htt
 have HL':=hD hl'
 have HTI:=hD hA'
 have HPP:=hD hI
 have HL:=hD hl
 have HCLN:Hid (∀u,Below w.heap.size w u→Calls Tryz.prog 131 #[.slice A n c] u fun e w'=>(∃v,e= .returned v∧w'.ownsRow u.heap.size 137 35 v n (p.map coC).flatten)∧Below u.heap.size u w'):=fun u hu=>pclone_any p A n c u hl (by have:=(mayP_iff.1 k1).1;omega) hI (CellsIn.up hA hu)
 rw[k1]at HMY
 have HLO:Hid (loneX (rsT l)=false):=by
  have h:rsT l=[]:=List.eq_nil_of_length_eq_zero (by rw[HRL.out,k3])
  show _=_
  rw[h]
  rfl
 have C5:Hid (decide ((0:Int)<(n':Int))=false):=decide_eq_false (by omega)
 have HTO:Hid (TxsIn w A' l):=hA'
 have HLN:Hid ((l).length=n'):=by show _=_;exact hl'
 have HNO:Hid (n'≤4∧n'<9223372036854775808):=⟨by omega,by omega⟩
 have HOT:Hid ((if loneX (rsT l)then (rsT l).tail else rsT l)=rsT l):=by
  show _=_
  rw[HLO.out]
  rfl
 clear k1 k2 k3 hl hnc hcm hI hA hl' hnc' hcm' hA' htt
 go_enter func132,ntmps132
 go_upto_region 1 with (fail)
 refine rgQ [0,1,2] [] E1 rfl fun hw=>?_
 refine qo rfl hw ?_
 refine qc rfl func181 (fun u hu=>HMY.out u (EnvX.bel hu)) hw ?_
 refine qo rfl hw ?_
 refine enP fun u3 EX2=>?_
 go_upto_region 3 with (fail)
 refine rgQ [0,1,2] [] EX2 rfl fun hw=>?_
 refine qo rfl hw ?_
 refine qv rfl (fun u hu=>len_op underlying23 HM63.out u rfl) hw ?_
 refine qv rfl (fun u hu=>gtZ_op u D4.out rfl rfl) hw ?_
 refine enP fun u6 EX5=>?_
 go_upto_region 5 with (fail)
 refine rgQ [0,1,2,3,4,5,6,7,8,9,10,11,12,13] [] EX5 rfl fun hw=>?_
 refine qo rfl hw ?_
 refine qv rfl (fun u hu=>len_op underlying23 HM63.out u rfl) hw ?_
 refine qv rfl (fun u hu=>gtZ_op u C5.out rfl rfl) hw ?_
 refine qw 11 hw ?_
 refine enP fun u9 EX8=>?_
 go_upto_region 6 with (fail)
 refine rgQ [0] [] EX8 rfl fun hw=>?_
 refine qo rfl hw ?_
 refine enP fun u12 EX11=>?_
 go_upto_region 8 with (fail)
 refine rgQ [0] [1,2,3] EX11 rfl fun hw=>?_
 refine qo rfl hw ?_
 refine wpG_nil<|qr rfl func131 (fun u hu=>callsR_fresh (HCLN.out u (EnvX.bel hu))) ?_
 rintro x0 N0 hF hf he14
 have HF0:=hD (And.intro hF hf)
 clear hF
 clear hf
 change lexH _ _ _ _ _ _ (N0++[])
 rw[List.append_nil]at he14 ⊢
 refine phE [2,3] [] he14 fun hw=>?_
 refine qw 2 hw ?_
 refine enP fun u17 EX16=>?_
 go_upto_region 9 with (fail)
 refine rgQ [0,1,2] [] EX16 rfl fun hw=>?_
 refine qo rfl hw ?_
 refine qv rfl (fun u hu=>len_op underlying23 HNO.out.2 u rfl) hw ?_
 refine qo rfl hw ?_
 refine enP fun u20 EX19=>?_
 have HINV:Hid (runP p 0 ((rsT l).take 0)= .ok (p,0)∧ ∃N,FreshR 137 35 p.length (p.map coC).flatten x0 N∧freshN w N []∧EnvX w u20 N):=by
  refine⟨rfl,N0,?_,HF0.out.2,EX19.out⟩
  rw[HL.out]
  exact HF0.out.1
 clear EX19 E1 HF0
 go_upto_region 10 with (fail)
 go_loopw [8,9,40] (fun nv mv iv u=> ∃(i:Nat)(q:List CoinR)(m:Int),i≤n'∧iv= .int .i64 (i:Int)∧mv= .int .i64 (50+m)∧Hid (runP p 0 ((rsT l).take i)= .ok (q,m)∧ ∃N,FreshR 137 35 q.length (q.map coC).flatten nv N∧freshN w N []∧EnvX w u N)) (fun _ _ iv _=>n'- (intOf iv).toNat)
 case atStart=>exact⟨0,p,0,by omega,rfl,rfl,HINV⟩
 case round=>
  obtain⟨i,q,m,hi,rfl,rfl,hinv⟩:=hrel
  obtain⟨hrun,N,hF,hfr,hE⟩:=hinv.out
  have EK:=hD hE
  have HRUN:=hD hrun
  have HRB:=hD (run_bounds HK.out HPP.out hrun)
  have HF:=hD hF
  have HFR:=hD hfr
  obtain⟨A3,c3,rfl,hc1,hc2⟩:=FreshR.formC HF.out
  have HC3:=hD (And.intro hc1 hc2)
  have HCO:Hid (∀u M,EnvX w u M→(∀y∈N,y∈M)→CoinsIn u u.heap.size A3 q):=fun u M hu hm=>own_cells (HF.out.own (w:=u) (B:=0) (FreshR.lenOf HF.out) (fun y hy=>⟨Nat.zero_le _,hu.box _ _ (hm y hy)⟩))
  clear hinv HINV hrun hF hfr hE hc1 hc2
  by_cases hlt:i<n'
  · have C10:Hid (decide ((i:Int)<((n':Nat):Int))=true):=decide_eq_true (by omega)
    have HI:Hid (i<n'):=hlt
    have hil:i<(l).length:=by rw[HLN.out];exact hlt
    have HIL:Hid (i<(rsT l).length):=by show _<_;unfold rsT;rw[lM];exact hil
    obtain⟨ad,hAO,-,hld⟩:=HTO.out.loads hil
    have HAO:Hid (A'=some ad):=hAO
    have HLD:=hD hld
    have HTX:Hid (TxOk w ((l).getD i noTxM)):=HTO.out.get hil
    have hrg:(rsT l).getD i noTx=((l).getD i noTxM).r:=by
     unfold rsT
     rw[gD,List.getElem?_map,gD,gE hil]
     rfl
    obtain⟨t,ht⟩: ∃t,(l).getD i noTxM=t:=⟨_,rfl⟩
    rw[ht]at HLD HTX hrg
    have HRG:=hD hrg
    have HSD:Hid (∀u M,EnvX w u M→(∀y∈N,y∈M)→Calls Tryz.prog 182 #[.slice A3 q.length c3,txV t] u fun e w'=>SpE q t.r w' u.heap.size e∧Below u.heap.size u w'):=fun u M hu hm=>by
     obtain⟨r,B1,m1,d1,B2,m2,d2⟩:=t
     exact pspend_any q A3 q.length c3 r B1 m1 d1 B2 m2 d2 u rfl HC3.out.1 HC3.out.2 HRB.out.1 (HCO.out u M hu hm) (HTX.out.up (EnvX.bel hu)) (HTT.out.below (EnvX.bel hu))
    have HSN:Hid (∀x N,SpN q t.r x N→ ∃v,x= .tuple #[v, .int .i64 (spendP q t.r).2.1, .int .i64 ((spendP q t.r).2.2:Int)]∧((spendP q t.r).2.2=0→FreshR 137 35 (spendP q t.r).1.length (((spendP q t.r).1).map coC).flatten v N)):=fun x N h=>h
    rcases hs:spendP q t.r with ⟨q2,m2,e2⟩
    rw[hs]at HSN
    simp only at HSN
    have HS:=hD hs
    clear hlt hil hAO hld hrg ht hs
    go_upto_region 10 with (fail)
    refine rgQ [0] [] EK rfl fun hw=>?_
    refine qv rfl (fun u hu=>ltZ_op u C10.out rfl rfl) hw ?_
    refine enP fun u23 EX22=>?_
    go_upto_region 11 with (fail)
    refine rgQ [0,1] [2,3] EX22 rfl fun hw=>?_
    refine qv (v:= .pointer (some (ad.add (i*2)))) rfl (fun u hu=>idxSlH_op (i:=i) underlying23 aggTx.size HI.out HAO.out u rfl rfl) hw ?_
    refine qv rfl (fun u hu=>load_any_op u (HLD.out u (nl hu)).1 rfl) hw ?_
    refine wpG_nil<|qn rfl (new_tx _) fun gx HG6 he25=>?_
    change lexH _ _ _ _ _ _ ((gx,oc (txA noTxM) 77)::N)
    refine(sh rfl HG6 (infoTx _ (txA_size _)) ((txA_size _).trans (txA_size _).symm) (txA_one _) ?_)
    refine fun _=>enL fun u28 EX27=>?_
    rcases e2 with _|e3
    case succ=>
     have C13:Hid (decide (((e3+1:Nat):Int)≠0)=true):=decide_eq_true (by omega)
     have HF2:Hid ((applyP p (rsT l)).2=e3+1):=by
      have h1:=run_stopO noTx HIL.out HRUN.out (by rw[HRG.out];exact HS.out)
      show _=_
      rw[apply_err HK.out (by rw[HRL.out];have:=HK2.out;omega) (by rw[HOT.out];exact h1)]
     go_upto_region 12 with (fail)
     refine rgQ [0,1] [2,3,4,5,6,7,8,9] EX27 rfl fun hw=>?_
     refine qo rfl hw ?_
     refine ql rfl mH trivial hw ?_
     refine wpG_nil<|qr rfl func182 (fun u hu=>(callsS_fresh (HSD.out u _ hu (fun y hy=>mT hy))).mono (fun _ _⟨x,N,k1,k2,k3⟩=>⟨x,N,k1,HSN.out x N k2,k3⟩)) ?_
     rintro _ N9 ⟨v9,rfl,hF⟩ hf he30
     have HF9:=hD (And.intro hF hf)
     clear hF
     clear hf
     refine phE [3,4,5,6,7,8,9] [] he30 fun hw=>?_
     refine qw 7 hw ?_
     refine enP fun u33 EX32=>?_
     go_upto_region 13 with (fail)
     refine rgQ [0,1] [] EX32 rfl fun hw=>?_
     refine qo rfl hw ?_
     refine qv rfl (fun u hu=>neErr_op u C13.out rfl rfl) hw ?_
     refine enP fun u36 EX35=>?_
     go_upto_region 14 with (fail)
     refine rgQ [0,1,2] [] EX35 rfl fun hw=>?_
     refine qw 3 hw ?_
     refine enP fun u39 EX38=>?_
     have HBE:=hD (EnvX.bel EX38.out)
     go_wp2
     go_returns
     exact⟨ApE.mk (k:=e3+1) (.slice none 0 0) HF2.out (fun h=>absurd h (Nat.succ_ne_zero _)),HBE.out⟩
    have C13:Hid (decide (((0:Nat):Int)≠0)=false):=decide_eq_false (by omega)
    have hstp:=run_stepO noTx HIL.out HRUN.out (by rw[HRG.out];exact HS.out)
    have HSTP:=hD hstp
    have hrb2:=run_bounds HK.out HPP.out hstp
    have HAD:Hid (IntKind.i64.wrap (50+m+m2)=50+(m+m2)):=by show _=_;rw[wrapS (by have:=hrb2.2.2.1;have:=hrb2.2.2.2.1;omega)];omega
    clear hstp hrb2
    go_upto_region 12 with (fail)
    refine rgQ [0,1] [2,3,4,5,6,7,8,9] EX27 rfl fun hw=>?_
    refine qo rfl hw ?_
    refine ql rfl mH trivial hw ?_
    refine wpG_nil<|qr rfl func182 (fun u hu=>(callsS_fresh (HSD.out u _ hu (fun y hy=>mT hy))).mono (fun _ _⟨x,N,k1,k2,k3⟩=>⟨x,N,k1,HSN.out x N k2,k3⟩)) ?_
    rintro _ N9 ⟨v9,rfl,hF⟩ hf he30
    have HF9:=hD (And.intro hF hf)
    clear hF
    clear hf
    refine phE [3,4,5,6,7,8,9] [] he30 fun hw=>?_
    refine qw 7 hw ?_
    refine enP fun u33 EX32=>?_
    go_upto_region 13 with (fail)
    refine rgQ [0,1] [] EX32 rfl fun hw=>?_
    refine qo rfl hw ?_
    refine qv rfl (fun u hu=>neErr_op u C13.out rfl rfl) hw ?_
    refine enP fun u36 EX35=>?_
    go_upto_region 15 with (fail)
    refine rgQ [0,1,2,3,4,5] [] EX35 rfl fun hw=>?_
    refine qw 3 hw ?_
    refine qv rfl (fun u hu=>addZ_op u HAD.out rfl rfl) hw ?_
    refine qw 2 hw ?_
    refine enP fun u39 EX38=>?_
    have HNX:Hid (runP p 0 ((rsT l).take (i+1))= .ok (q2,(m+m2))∧ ∃N,FreshR 137 35 q2.length (q2.map coC).flatten v9 N∧freshN w N []∧EnvX w u39 N):=⟨HSTP.out,N9,HF9.out.1 rfl,fun y hy=>⟨(HF9.out.2 y hy).1,fun z hz=>by cases hz⟩,EnvX.sub EX38.out (fun y hy=>mL hy)⟩
    have hii:=HI.out
    have hn:=HNO.out.1
    go_wp2
    go_roundw
    case rel=>exact⟨i+1,q2,m+m2,by omega,by go_num,rfl,HNX⟩
    case measure=>simp[intOf];omega
  · have hino:i=n':=by omega
    have C10:Hid (decide ((i:Int)<((n':Nat):Int))=false):=decide_eq_false (by omega)
    have HRA:Hid (runP p 0 (if loneX (rsT l)then (rsT l).tail else rsT l)= .ok (q,m)):=by
     have h:=HRUN.out
     show _=_
     rw[HOT.out]
     rwa[tL (by unfold rsT;rw[lM,HLN.out,hino];exact Nat.le_refl _)]at h
    clear hlt hino
    go_upto_region 10 with (fail)
    refine rgQ [0] [] EK rfl fun hw=>?_
    refine qv rfl (fun u hu=>ltZ_op u C10.out rfl rfl) hw ?_
    refine enP fun u503 EX502=>?_
    go_upto_region 17 with (fail)
    refine rgQ [0,1] [] EX502 rfl fun hw=>?_
    refine qw 2 hw ?_
    refine enP fun u506 EX505=>?_
    have HAP:Hid (applyP p (rsT l)=(q,0)):=apply_out HK.out (by rw[HRL.out];have:=HK2.out;omega) HRA.out HLO.out
    have HF2:Hid ((applyP p (rsT l)).2=0):=by show _=_;rw[HAP.out]
    go_upto_region 18 with (fail)
    refine rgQ [0,1,2] [] EX505 rfl fun hw=>?_
    refine qw 3 hw ?_
    refine enP fun u509 EX508=>?_
    have HOW:=hD (HF.out.own (w:=u509) (B:=w.heap.size) (FreshR.lenOf HF.out) (fun y hy=>⟨(HFR.out y hy).1,EnvX.box EX508.out _ _ hy⟩))
    have HBE:=hD (EnvX.bel EX508.out)
    go_wp2
    go_returns
    exact⟨ApE.mk (k:=0) (.slice A3 q.length c3) HF2.out (fun _=>by rw[HAP.out];exact HOW.out),HBE.out⟩
theorem papply_mainB(p:List CoinR)(A:Option Addr)(n c:Nat)(l:List TxM)(A':Option Addr)(n' c':Nat)(w:World)(hl:p.length=n)(hnc:n≤c)(hcm:c≤maxLen)(hI:okP p)(hA:CoinsIn w w.heap.size A p)(hl':l.length=n')(hnc':n'≤c')(hcm':c'≤maxLen)(hA':TxsIn w A' l)(htt:Tables w)(k1:mayP p=true)(k2: ¬4<n')(k3:0<n')(k4:loneX (rsT l)=false):
  Calls Tryz.prog 132 #[.slice A n c, .slice A' n' c'] w fun e w'=>ApE (applyP p (rsT l)) w' w.heap.size e∧Below w.heap.size w w':=by
 have HMY:Hid (Rb w 181 #[.slice A n c] (.bool (mayP p))):=fun u hu=>pmayP_any p A n c u hl hnc hcm hI (CellsIn.up hA hu)
 have HM63:Hid (n'<9223372036854775808):=by show _<_;unfold maxLen at hcm';omega
 have E1:Hid (EnvX w w []):=EnvX.start w
 have D4:Hid (decide ((4:Int)<(n':Int))=false):=decide_eq_false (by omega)
 have HK:=hD k1
 have HK2:Hid (n'≤4):=by show _≤_;omega
 have HRL:Hid ((rsT l).length=n'):=by show _=_;unfold rsT;rw[lM,hl']
 have HTT:=hD htt
 have HL':=hD hl'
 have HTI:=hD hA'
 have HPP:=hD hI
 have HL:=hD hl
 have HCLN:Hid (∀u,Below w.heap.size w u→Calls Tryz.prog 131 #[.slice A n c] u fun e w'=>(∃v,e= .returned v∧w'.ownsRow u.heap.size 137 35 v n (p.map coC).flatten)∧Below u.heap.size u w'):=fun u hu=>pclone_any p A n c u hl (by have:=(mayP_iff.1 k1).1;omega) hI (CellsIn.up hA hu)
 rw[k1]at HMY
 have HLO:Hid (loneX (rsT l)=false):=k4
 have C5:Hid (decide ((0:Int)<(n':Int))=true):=decide_eq_true (by omega)
 have HI0:Hid (0<n'):=k3
 obtain⟨ad0,hA0,-,hld0⟩:=hA'.loads (k:=0) (by rw[hl'];exact k3)
 have hA0':A'=some ad0:=hA0
 subst hA0'
 have HLD0:=hD hld0
 have HL0:Hid (∀u,EnvX w u []→(loadVar 74 ((ad0.add (0*2)).add 0)).run Tryz.prog u= .ok (.slice (l.getD 0 noTxM).A1 (l.getD 0 noTxM).n1 (l.getD 0 noTxM).c1) u):=fun u hu=>by
  have h:=(hld0 u hu).2.1
  rwa[show ((ad0.add (0*2)).add 0)=ad0.add (0*2)by unfold Addr.add;rfl]
 have ht0:TxOk w (l.getD 0 noTxM):=hA'.get (i:=0) (by rw[hl'];exact k3)
 have HT0:=hD ht0
 have hrg0:(rsT l).getD 0 noTx=(l.getD 0 noTxM).r:=by
  unfold rsT
  rw[gD,List.getElem?_map,gD,gE (show 0<l.length by omega)]
  rfl
 have HRG0:=hD hrg0
 have HN0:Hid ((l.getD 0 noTxM).n1<9223372036854775808):=ht0.n63.1
 have C9:Hid (decide (((l.getD 0 noTxM).n1:Int)=0)=false):=by
  have hlg:=lone_get (l:=rsT l) noTx (by rw[HRL.out];exact k3)
  rw[hrg0,k4]at hlg
  have h1:=ht0.l1
  show _=_
  rw[hlg]
  refine decide_eq_decide.2 ⟨fun h=>List.eq_nil_of_length_eq_zero (by rw[h1];omega),fun h=>?_⟩
  have h2:(l.getD 0 noTxM).n1=0:=by rw[←h1,h];rfl
  omega
 generalize ht0g:l.getD 0 noTxM=tm0 at *
 have HTO:Hid (TxsIn w (some ad0) l):=hA'
 have HLN:Hid ((l).length=n'):=by show _=_;exact hl'
 have HNO:Hid (n'≤4∧n'<9223372036854775808):=⟨by omega,by omega⟩
 have HOT:Hid ((if loneX (rsT l)then (rsT l).tail else rsT l)=rsT l):=by
  show _=_
  rw[HLO.out]
  rfl
 clear k1 k2 k3 k4 hl hnc hcm hI hA hl' hnc' hcm' hA' htt hA0 hld0 ht0 hrg0 ht0g
 go_enter func132,ntmps132
 go_upto_region 1 with (fail)
 refine rgQ [0,1,2] [] E1 rfl fun hw=>?_
 refine qo rfl hw ?_
 refine qc rfl func181 (fun u hu=>HMY.out u (EnvX.bel hu)) hw ?_
 refine qo rfl hw ?_
 refine enP fun u3 EX2=>?_
 go_upto_region 3 with (fail)
 refine rgQ [0,1,2] [] EX2 rfl fun hw=>?_
 refine qo rfl hw ?_
 refine qv rfl (fun u hu=>len_op underlying23 HM63.out u rfl) hw ?_
 refine qv rfl (fun u hu=>gtZ_op u D4.out rfl rfl) hw ?_
 refine enP fun u6 EX5=>?_
 go_upto_region 5 with (fail)
 refine rgQ [0,1,2,3,4,5,6,7,8,9,10,11,12,13] [] EX5 rfl fun hw=>?_
 refine qo rfl hw ?_
 refine qv rfl (fun u hu=>len_op underlying23 HM63.out u rfl) hw ?_
 refine qv rfl (fun u hu=>gtZ_op u C5.out rfl rfl) hw ?_
 refine qw 2 hw ?_
 refine qv rfl (fun u hu=>idxSl_op underlying23 aggTx.size HI0.out u rfl rfl) hw ?_
 refine qv (v:= .pointer (some ((ad0.add (0*2)).add 0))) rfl (fun u hu=>fieldTx_op (k:=0) (off:=0) rfl u rfl) hw ?_
 refine qv rfl (fun u hu=>load_any_op u (HL0.out u (nl hu)) rfl) hw ?_
 refine qv rfl (fun u hu=>len_op underlying74 HN0.out u rfl) hw ?_
 refine qv rfl (fun u hu=>eqlI_op u C9.out rfl rfl) hw ?_
 refine qw 4 hw ?_
 refine enP fun u9 EX8=>?_
 go_upto_region 6 with (fail)
 refine rgQ [0] [] EX8 rfl fun hw=>?_
 refine qo rfl hw ?_
 refine enP fun u12 EX11=>?_
 go_upto_region 8 with (fail)
 refine rgQ [0] [1,2,3] EX11 rfl fun hw=>?_
 refine qo rfl hw ?_
 refine wpG_nil<|qr rfl func131 (fun u hu=>callsR_fresh (HCLN.out u (EnvX.bel hu))) ?_
 rintro x0 N0 hF hf he14
 have HF0:=hD (And.intro hF hf)
 clear hF
 clear hf
 change lexH _ _ _ _ _ _ (N0++[])
 rw[List.append_nil]at he14 ⊢
 refine phE [2,3] [] he14 fun hw=>?_
 refine qw 2 hw ?_
 refine enP fun u17 EX16=>?_
 go_upto_region 9 with (fail)
 refine rgQ [0,1,2] [] EX16 rfl fun hw=>?_
 refine qo rfl hw ?_
 refine qv rfl (fun u hu=>len_op underlying23 HNO.out.2 u rfl) hw ?_
 refine qo rfl hw ?_
 refine enP fun u20 EX19=>?_
 have HINV:Hid (runP p 0 ((rsT l).take 0)= .ok (p,0)∧ ∃N,FreshR 137 35 p.length (p.map coC).flatten x0 N∧freshN w N []∧EnvX w u20 N):=by
  refine⟨rfl,N0,?_,HF0.out.2,EX19.out⟩
  rw[HL.out]
  exact HF0.out.1
 clear EX19 E1 HF0
 go_upto_region 10 with (fail)
 go_loopw [8,9,40] (fun nv mv iv u=> ∃(i:Nat)(q:List CoinR)(m:Int),i≤n'∧iv= .int .i64 (i:Int)∧mv= .int .i64 (50+m)∧Hid (runP p 0 ((rsT l).take i)= .ok (q,m)∧ ∃N,FreshR 137 35 q.length (q.map coC).flatten nv N∧freshN w N []∧EnvX w u N)) (fun _ _ iv _=>n'- (intOf iv).toNat)
 case atStart=>exact⟨0,p,0,by omega,rfl,rfl,HINV⟩
 case round=>
  obtain⟨i,q,m,hi,rfl,rfl,hinv⟩:=hrel
  obtain⟨hrun,N,hF,hfr,hE⟩:=hinv.out
  have EK:=hD hE
  have HRUN:=hD hrun
  have HRB:=hD (run_bounds HK.out HPP.out hrun)
  have HF:=hD hF
  have HFR:=hD hfr
  obtain⟨A3,c3,rfl,hc1,hc2⟩:=FreshR.formC HF.out
  have HC3:=hD (And.intro hc1 hc2)
  have HCO:Hid (∀u M,EnvX w u M→(∀y∈N,y∈M)→CoinsIn u u.heap.size A3 q):=fun u M hu hm=>own_cells (HF.out.own (w:=u) (B:=0) (FreshR.lenOf HF.out) (fun y hy=>⟨Nat.zero_le _,hu.box _ _ (hm y hy)⟩))
  clear hinv HINV hrun hF hfr hE hc1 hc2
  by_cases hlt:i<n'
  · have C10:Hid (decide ((i:Int)<((n':Nat):Int))=true):=decide_eq_true (by omega)
    have HI:Hid (i<n'):=hlt
    have hil:i<(l).length:=by rw[HLN.out];exact hlt
    have HIL:Hid (i<(rsT l).length):=by show _<_;unfold rsT;rw[lM];exact hil
    obtain⟨ad,hAO,-,hld⟩:=HTO.out.loads hil
    have HAO:Hid ((some ad0)=some ad):=hAO
    have HLD:=hD hld
    have HTX:Hid (TxOk w ((l).getD i noTxM)):=HTO.out.get hil
    have hrg:(rsT l).getD i noTx=((l).getD i noTxM).r:=by
     unfold rsT
     rw[gD,List.getElem?_map,gD,gE hil]
     rfl
    obtain⟨t,ht⟩: ∃t,(l).getD i noTxM=t:=⟨_,rfl⟩
    rw[ht]at HLD HTX hrg
    have HRG:=hD hrg
    have HSD:Hid (∀u M,EnvX w u M→(∀y∈N,y∈M)→Calls Tryz.prog 182 #[.slice A3 q.length c3,txV t] u fun e w'=>SpE q t.r w' u.heap.size e∧Below u.heap.size u w'):=fun u M hu hm=>by
     obtain⟨r,B1,m1,d1,B2,m2,d2⟩:=t
     exact pspend_any q A3 q.length c3 r B1 m1 d1 B2 m2 d2 u rfl HC3.out.1 HC3.out.2 HRB.out.1 (HCO.out u M hu hm) (HTX.out.up (EnvX.bel hu)) (HTT.out.below (EnvX.bel hu))
    have HSN:Hid (∀x N,SpN q t.r x N→ ∃v,x= .tuple #[v, .int .i64 (spendP q t.r).2.1, .int .i64 ((spendP q t.r).2.2:Int)]∧((spendP q t.r).2.2=0→FreshR 137 35 (spendP q t.r).1.length (((spendP q t.r).1).map coC).flatten v N)):=fun x N h=>h
    rcases hs:spendP q t.r with ⟨q2,m2,e2⟩
    rw[hs]at HSN
    simp only at HSN
    have HS:=hD hs
    clear hlt hil hAO hld hrg ht hs
    go_upto_region 10 with (fail)
    refine rgQ [0] [] EK rfl fun hw=>?_
    refine qv rfl (fun u hu=>ltZ_op u C10.out rfl rfl) hw ?_
    refine enP fun u23 EX22=>?_
    go_upto_region 11 with (fail)
    refine rgQ [0,1] [2,3] EX22 rfl fun hw=>?_
    refine qv (v:= .pointer (some (ad.add (i*2)))) rfl (fun u hu=>idxSlH_op (i:=i) underlying23 aggTx.size HI.out HAO.out u rfl rfl) hw ?_
    refine qv rfl (fun u hu=>load_any_op u (HLD.out u (nl hu)).1 rfl) hw ?_
    refine wpG_nil<|qn rfl (new_tx _) fun gx HG6 he25=>?_
    change lexH _ _ _ _ _ _ ((gx,oc (txA noTxM) 77)::N)
    refine(sh rfl HG6 (infoTx _ (txA_size _)) ((txA_size _).trans (txA_size _).symm) (txA_one _) ?_)
    refine fun _=>enL fun u28 EX27=>?_
    rcases e2 with _|e3
    case succ=>
     have C13:Hid (decide (((e3+1:Nat):Int)≠0)=true):=decide_eq_true (by omega)
     have HF2:Hid ((applyP p (rsT l)).2=e3+1):=by
      have h1:=run_stopO noTx HIL.out HRUN.out (by rw[HRG.out];exact HS.out)
      show _=_
      rw[apply_err HK.out (by rw[HRL.out];have:=HK2.out;omega) (by rw[HOT.out];exact h1)]
     go_upto_region 12 with (fail)
     refine rgQ [0,1] [2,3,4,5,6,7,8,9] EX27 rfl fun hw=>?_
     refine qo rfl hw ?_
     refine ql rfl mH trivial hw ?_
     refine wpG_nil<|qr rfl func182 (fun u hu=>(callsS_fresh (HSD.out u _ hu (fun y hy=>mT hy))).mono (fun _ _⟨x,N,k1,k2,k3⟩=>⟨x,N,k1,HSN.out x N k2,k3⟩)) ?_
     rintro _ N9 ⟨v9,rfl,hF⟩ hf he30
     have HF9:=hD (And.intro hF hf)
     clear hF
     clear hf
     refine phE [3,4,5,6,7,8,9] [] he30 fun hw=>?_
     refine qw 7 hw ?_
     refine enP fun u33 EX32=>?_
     go_upto_region 13 with (fail)
     refine rgQ [0,1] [] EX32 rfl fun hw=>?_
     refine qo rfl hw ?_
     refine qv rfl (fun u hu=>neErr_op u C13.out rfl rfl) hw ?_
     refine enP fun u36 EX35=>?_
     go_upto_region 14 with (fail)
     refine rgQ [0,1,2] [] EX35 rfl fun hw=>?_
     refine qw 3 hw ?_
     refine enP fun u39 EX38=>?_
     have HBE:=hD (EnvX.bel EX38.out)
     go_wp2
     go_returns
     exact⟨ApE.mk (k:=e3+1) (.slice none 0 0) HF2.out (fun h=>absurd h (Nat.succ_ne_zero _)),HBE.out⟩
    have C13:Hid (decide (((0:Nat):Int)≠0)=false):=decide_eq_false (by omega)
    have hstp:=run_stepO noTx HIL.out HRUN.out (by rw[HRG.out];exact HS.out)
    have HSTP:=hD hstp
    have hrb2:=run_bounds HK.out HPP.out hstp
    have HAD:Hid (IntKind.i64.wrap (50+m+m2)=50+(m+m2)):=by show _=_;rw[wrapS (by have:=hrb2.2.2.1;have:=hrb2.2.2.2.1;omega)];omega
    clear hstp hrb2
    go_upto_region 12 with (fail)
    refine rgQ [0,1] [2,3,4,5,6,7,8,9] EX27 rfl fun hw=>?_
    refine qo rfl hw ?_
    refine ql rfl mH trivial hw ?_
    refine wpG_nil<|qr rfl func182 (fun u hu=>(callsS_fresh (HSD.out u _ hu (fun y hy=>mT hy))).mono (fun _ _⟨x,N,k1,k2,k3⟩=>⟨x,N,k1,HSN.out x N k2,k3⟩)) ?_
    rintro _ N9 ⟨v9,rfl,hF⟩ hf he30
    have HF9:=hD (And.intro hF hf)
    clear hF
    clear hf
    refine phE [3,4,5,6,7,8,9] [] he30 fun hw=>?_
    refine qw 7 hw ?_
    refine enP fun u33 EX32=>?_
    go_upto_region 13 with (fail)
    refine rgQ [0,1] [] EX32 rfl fun hw=>?_
    refine qo rfl hw ?_
    refine qv rfl (fun u hu=>neErr_op u C13.out rfl rfl) hw ?_
    refine enP fun u36 EX35=>?_
    go_upto_region 15 with (fail)
    refine rgQ [0,1,2,3,4,5] [] EX35 rfl fun hw=>?_
    refine qw 3 hw ?_
    refine qv rfl (fun u hu=>addZ_op u HAD.out rfl rfl) hw ?_
    refine qw 2 hw ?_
    refine enP fun u39 EX38=>?_
    have HNX:Hid (runP p 0 ((rsT l).take (i+1))= .ok (q2,(m+m2))∧ ∃N,FreshR 137 35 q2.length (q2.map coC).flatten v9 N∧freshN w N []∧EnvX w u39 N):=⟨HSTP.out,N9,HF9.out.1 rfl,fun y hy=>⟨(HF9.out.2 y hy).1,fun z hz=>by cases hz⟩,EnvX.sub EX38.out (fun y hy=>mL hy)⟩
    have hii:=HI.out
    have hn:=HNO.out.1
    go_wp2
    go_roundw
    case rel=>exact⟨i+1,q2,m+m2,by omega,by go_num,rfl,HNX⟩
    case measure=>simp[intOf];omega
  · have hino:i=n':=by omega
    have C10:Hid (decide ((i:Int)<((n':Nat):Int))=false):=decide_eq_false (by omega)
    have HRA:Hid (runP p 0 (if loneX (rsT l)then (rsT l).tail else rsT l)= .ok (q,m)):=by
     have h:=HRUN.out
     show _=_
     rw[HOT.out]
     rwa[tL (by unfold rsT;rw[lM,HLN.out,hino];exact Nat.le_refl _)]at h
    clear hlt hino
    go_upto_region 10 with (fail)
    refine rgQ [0] [] EK rfl fun hw=>?_
    refine qv rfl (fun u hu=>ltZ_op u C10.out rfl rfl) hw ?_
    refine enP fun u503 EX502=>?_
    go_upto_region 17 with (fail)
    refine rgQ [0,1] [] EX502 rfl fun hw=>?_
    refine qw 2 hw ?_
    refine enP fun u506 EX505=>?_
    have HAP:Hid (applyP p (rsT l)=(q,0)):=apply_out HK.out (by rw[HRL.out];have:=HK2.out;omega) HRA.out HLO.out
    have HF2:Hid ((applyP p (rsT l)).2=0):=by show _=_;rw[HAP.out]
    go_upto_region 18 with (fail)
    refine rgQ [0,1,2] [] EX505 rfl fun hw=>?_
    refine qw 3 hw ?_
    refine enP fun u509 EX508=>?_
    have HOW:=hD (HF.out.own (w:=u509) (B:=w.heap.size) (FreshR.lenOf HF.out) (fun y hy=>⟨(HFR.out y hy).1,EnvX.box EX508.out _ _ hy⟩))
    have HBE:=hD (EnvX.bel EX508.out)
    go_wp2
    go_returns
    exact⟨ApE.mk (k:=0) (.slice A3 q.length c3) HF2.out (fun _=>by rw[HAP.out];exact HOW.out),HBE.out⟩
theorem papply_mainC(p:List CoinR)(A:Option Addr)(n c:Nat)(l:List TxM)(A':Option Addr)(n' c':Nat)(w:World)(hl:p.length=n)(hnc:n≤c)(hcm:c≤maxLen)(hI:okP p)(hA:CoinsIn w w.heap.size A p)(hl':l.length=n')(hnc':n'≤c')(hcm':c'≤maxLen)(hA':TxsIn w A' l)(htt:Tables w)(k1:mayP p=true)(k2: ¬4<n')(k3:0<n')(k4:loneX (rsT l)=true):
  Calls Tryz.prog 132 #[.slice A n c, .slice A' n' c'] w fun e w'=>ApE (applyP p (rsT l)) w' w.heap.size e∧Below w.heap.size w w':=by
 have HMY:Hid (Rb w 181 #[.slice A n c] (.bool (mayP p))):=fun u hu=>pmayP_any p A n c u hl hnc hcm hI (CellsIn.up hA hu)
 have HM63:Hid (n'<9223372036854775808):=by show _<_;unfold maxLen at hcm';omega
 have E1:Hid (EnvX w w []):=EnvX.start w
 have D4:Hid (decide ((4:Int)<(n':Int))=false):=decide_eq_false (by omega)
 have HK:=hD k1
 have HK2:Hid (n'≤4):=by show _≤_;omega
 have HRL:Hid ((rsT l).length=n'):=by show _=_;unfold rsT;rw[lM,hl']
 have HTT:=hD htt
 have HL':=hD hl'
 have HTI:=hD hA'
 have HPP:=hD hI
 have HL:=hD hl
 have HCLN:Hid (∀u,Below w.heap.size w u→Calls Tryz.prog 131 #[.slice A n c] u fun e w'=>(∃v,e= .returned v∧w'.ownsRow u.heap.size 137 35 v n (p.map coC).flatten)∧Below u.heap.size u w'):=fun u hu=>pclone_any p A n c u hl (by have:=(mayP_iff.1 k1).1;omega) hI (CellsIn.up hA hu)
 rw[k1]at HMY
 have HLO:Hid (loneX (rsT l)=true):=k4
 have C5:Hid (decide ((0:Int)<(n':Int))=true):=decide_eq_true (by omega)
 have HI0:Hid (0<n'):=k3
 obtain⟨ad0,hA0,-,hld0⟩:=hA'.loads (k:=0) (by rw[hl'];exact k3)
 have hA0':A'=some ad0:=hA0
 subst hA0'
 have HLD0:=hD hld0
 have HL0:Hid (∀u,EnvX w u []→(loadVar 74 ((ad0.add (0*2)).add 0)).run Tryz.prog u= .ok (.slice (l.getD 0 noTxM).A1 (l.getD 0 noTxM).n1 (l.getD 0 noTxM).c1) u):=fun u hu=>by
  have h:=(hld0 u hu).2.1
  rwa[show ((ad0.add (0*2)).add 0)=ad0.add (0*2)by unfold Addr.add;rfl]
 have ht0:TxOk w (l.getD 0 noTxM):=hA'.get (i:=0) (by rw[hl'];exact k3)
 have HT0:=hD ht0
 have hrg0:(rsT l).getD 0 noTx=(l.getD 0 noTxM).r:=by
  unfold rsT
  rw[gD,List.getElem?_map,gD,gE (show 0<l.length by omega)]
  rfl
 have HRG0:=hD hrg0
 have HN0:Hid ((l.getD 0 noTxM).n1<9223372036854775808):=ht0.n63.1
 have C9:Hid (decide (((l.getD 0 noTxM).n1:Int)=0)=true):=by
  have hlg:=lone_get (l:=rsT l) noTx (by rw[HRL.out];exact k3)
  rw[hrg0,k4]at hlg
  have h1:=ht0.l1
  show _=_
  rw[hlg]
  refine decide_eq_decide.2 ⟨fun h=>List.eq_nil_of_length_eq_zero (by rw[h1];omega),fun h=>?_⟩
  have h2:(l.getD 0 noTxM).n1=0:=by rw[←h1,h];rfl
  omega
 generalize ht0g:l.getD 0 noTxM=tm0 at *
 have HTO:Hid (TxsIn w (cutX 2 (some ad0) 1 c') l.tail):=hA'.tail (by rw[hl'];exact hnc') (by rw[hl'];exact k3)
 have HN1L:Hid (1≤n'):=k3
 have HLN:Hid ((l.tail).length=(n'- 1)):=by show _=_;rw[List.length_tail,hl']
 have HNO:Hid ((n'- 1)≤4∧(n'- 1)<9223372036854775808):=⟨by omega,by omega⟩
 have HOT:Hid ((if loneX (rsT l)then (rsT l).tail else rsT l)=rsT l.tail):=by
  show _=_
  rw[HLO.out]
  unfold rsT
  simp[List.map_tail]
 clear k1 k2 k3 k4 hl hnc hcm hI hA hl' hnc' hcm' hA' htt hA0 hld0 ht0 hrg0 ht0g
 go_enter func132,ntmps132
 go_upto_region 1 with (fail)
 refine rgQ [0,1,2] [] E1 rfl fun hw=>?_
 refine qo rfl hw ?_
 refine qc rfl func181 (fun u hu=>HMY.out u (EnvX.bel hu)) hw ?_
 refine qo rfl hw ?_
 refine enP fun u3 EX2=>?_
 go_upto_region 3 with (fail)
 refine rgQ [0,1,2] [] EX2 rfl fun hw=>?_
 refine qo rfl hw ?_
 refine qv rfl (fun u hu=>len_op underlying23 HM63.out u rfl) hw ?_
 refine qv rfl (fun u hu=>gtZ_op u D4.out rfl rfl) hw ?_
 refine enP fun u6 EX5=>?_
 go_upto_region 5 with (fail)
 refine rgQ [0,1,2,3,4,5,6,7,8,9,10,11,12,13] [] EX5 rfl fun hw=>?_
 refine qo rfl hw ?_
 refine qv rfl (fun u hu=>len_op underlying23 HM63.out u rfl) hw ?_
 refine qv rfl (fun u hu=>gtZ_op u C5.out rfl rfl) hw ?_
 refine qw 2 hw ?_
 refine qv rfl (fun u hu=>idxSl_op underlying23 aggTx.size HI0.out u rfl rfl) hw ?_
 refine qv (v:= .pointer (some ((ad0.add (0*2)).add 0))) rfl (fun u hu=>fieldTx_op (k:=0) (off:=0) rfl u rfl) hw ?_
 refine qv rfl (fun u hu=>load_any_op u (HL0.out u (nl hu)) rfl) hw ?_
 refine qv rfl (fun u hu=>len_op underlying74 HN0.out u rfl) hw ?_
 refine qv rfl (fun u hu=>eqlI_op u C9.out rfl rfl) hw ?_
 refine qw 4 hw ?_
 refine enP fun u9 EX8=>?_
 go_upto_region 6 with (fail)
 refine rgQ [0] [] EX8 rfl fun hw=>?_
 refine qo rfl hw ?_
 refine enP fun u12 EX11=>?_
 go_upto_region 7 with (fail)
 refine rgQ [0,1,2] [] EX11 rfl fun hw=>?_
 refine qo rfl hw ?_
 refine qv (v:= .slice (cutX 2 (some ad0) 1 c') (n'- 1) (c'- 1)) rfl (fun u hu=>cutXl_op elTx (j:=1) u HN1L.out rfl rfl) hw ?_
 refine qo rfl hw ?_
 refine enP fun u15 EX14=>?_
 go_upto_region 8 with (fail)
 refine rgQ [0] [1,2,3] EX14 rfl fun hw=>?_
 refine qo rfl hw ?_
 refine wpG_nil<|qr rfl func131 (fun u hu=>callsR_fresh (HCLN.out u (EnvX.bel hu))) ?_
 rintro x0 N0 hF hf he17
 have HF0:=hD (And.intro hF hf)
 clear hF
 clear hf
 change lexH _ _ _ _ _ _ (N0++[])
 rw[List.append_nil]at he17 ⊢
 refine phE [2,3] [] he17 fun hw=>?_
 refine qw 2 hw ?_
 refine enP fun u20 EX19=>?_
 go_upto_region 9 with (fail)
 refine rgQ [0,1,2] [] EX19 rfl fun hw=>?_
 refine qo rfl hw ?_
 refine qv rfl (fun u hu=>len_op underlying23 HNO.out.2 u rfl) hw ?_
 refine qo rfl hw ?_
 refine enP fun u23 EX22=>?_
 have HINV:Hid (runP p 0 ((rsT l.tail).take 0)= .ok (p,0)∧ ∃N,FreshR 137 35 p.length (p.map coC).flatten x0 N∧freshN w N []∧EnvX w u23 N):=by
  refine⟨rfl,N0,?_,HF0.out.2,EX22.out⟩
  rw[HL.out]
  exact HF0.out.1
 clear EX22 E1 HF0
 go_upto_region 10 with (fail)
 go_loopw [8,9,40] (fun nv mv iv u=> ∃(i:Nat)(q:List CoinR)(m:Int),i≤(n'- 1)∧iv= .int .i64 (i:Int)∧mv= .int .i64 (50+m)∧Hid (runP p 0 ((rsT l.tail).take i)= .ok (q,m)∧ ∃N,FreshR 137 35 q.length (q.map coC).flatten nv N∧freshN w N []∧EnvX w u N)) (fun _ _ iv _=>(n'- 1) - (intOf iv).toNat)
 case atStart=>exact⟨0,p,0,by omega,rfl,rfl,HINV⟩
 case round=>
  obtain⟨i,q,m,hi,rfl,rfl,hinv⟩:=hrel
  obtain⟨hrun,N,hF,hfr,hE⟩:=hinv.out
  have EK:=hD hE
  have HRUN:=hD hrun
  have HRB:=hD (run_bounds HK.out HPP.out hrun)
  have HF:=hD hF
  have HFR:=hD hfr
  obtain⟨A3,c3,rfl,hc1,hc2⟩:=FreshR.formC HF.out
  have HC3:=hD (And.intro hc1 hc2)
  have HCO:Hid (∀u M,EnvX w u M→(∀y∈N,y∈M)→CoinsIn u u.heap.size A3 q):=fun u M hu hm=>own_cells (HF.out.own (w:=u) (B:=0) (FreshR.lenOf HF.out) (fun y hy=>⟨Nat.zero_le _,hu.box _ _ (hm y hy)⟩))
  clear hinv HINV hrun hF hfr hE hc1 hc2
  by_cases hlt:i<(n'- 1)
  · have C10:Hid (decide ((i:Int)<(((n'- 1):Nat):Int))=true):=decide_eq_true (by omega)
    have HI:Hid (i<(n'- 1)):=hlt
    have hil:i<(l.tail).length:=by rw[HLN.out];exact hlt
    have HIL:Hid (i<(rsT l.tail).length):=by show _<_;unfold rsT;rw[lM];exact hil
    obtain⟨ad,hAO,-,hld⟩:=HTO.out.loads hil
    have HAO:Hid ((cutX 2 (some ad0) 1 c')=some ad):=hAO
    have HLD:=hD hld
    have HTX:Hid (TxOk w ((l.tail).getD i noTxM)):=HTO.out.get hil
    have hrg:(rsT l.tail).getD i noTx=((l.tail).getD i noTxM).r:=by
     unfold rsT
     rw[gD,List.getElem?_map,gD,gE hil]
     rfl
    obtain⟨t,ht⟩: ∃t,(l.tail).getD i noTxM=t:=⟨_,rfl⟩
    rw[ht]at HLD HTX hrg
    have HRG:=hD hrg
    have HSD:Hid (∀u M,EnvX w u M→(∀y∈N,y∈M)→Calls Tryz.prog 182 #[.slice A3 q.length c3,txV t] u fun e w'=>SpE q t.r w' u.heap.size e∧Below u.heap.size u w'):=fun u M hu hm=>by
     obtain⟨r,B1,m1,d1,B2,m2,d2⟩:=t
     exact pspend_any q A3 q.length c3 r B1 m1 d1 B2 m2 d2 u rfl HC3.out.1 HC3.out.2 HRB.out.1 (HCO.out u M hu hm) (HTX.out.up (EnvX.bel hu)) (HTT.out.below (EnvX.bel hu))
    have HSN:Hid (∀x N,SpN q t.r x N→ ∃v,x= .tuple #[v, .int .i64 (spendP q t.r).2.1, .int .i64 ((spendP q t.r).2.2:Int)]∧((spendP q t.r).2.2=0→FreshR 137 35 (spendP q t.r).1.length (((spendP q t.r).1).map coC).flatten v N)):=fun x N h=>h
    rcases hs:spendP q t.r with ⟨q2,m2,e2⟩
    rw[hs]at HSN
    simp only at HSN
    have HS:=hD hs
    clear hlt hil hAO hld hrg ht hs
    go_upto_region 10 with (fail)
    refine rgQ [0] [] EK rfl fun hw=>?_
    refine qv rfl (fun u hu=>ltZ_op u C10.out rfl rfl) hw ?_
    refine enP fun u23 EX22=>?_
    go_upto_region 11 with (fail)
    refine rgQ [0,1] [2,3] EX22 rfl fun hw=>?_
    refine qv (v:= .pointer (some (ad.add (i*2)))) rfl (fun u hu=>idxSlH_op (i:=i) underlying23 aggTx.size HI.out HAO.out u rfl rfl) hw ?_
    refine qv rfl (fun u hu=>load_any_op u (HLD.out u (nl hu)).1 rfl) hw ?_
    refine wpG_nil<|qn rfl (new_tx _) fun gx HG6 he25=>?_
    change lexH _ _ _ _ _ _ ((gx,oc (txA noTxM) 77)::N)
    refine(sh rfl HG6 (infoTx _ (txA_size _)) ((txA_size _).trans (txA_size _).symm) (txA_one _) ?_)
    refine fun _=>enL fun u28 EX27=>?_
    rcases e2 with _|e3
    case succ=>
     have C13:Hid (decide (((e3+1:Nat):Int)≠0)=true):=decide_eq_true (by omega)
     have HF2:Hid ((applyP p (rsT l)).2=e3+1):=by
      have h1:=run_stopO noTx HIL.out HRUN.out (by rw[HRG.out];exact HS.out)
      show _=_
      rw[apply_err HK.out (by rw[HRL.out];have:=HK2.out;omega) (by rw[HOT.out];exact h1)]
     go_upto_region 12 with (fail)
     refine rgQ [0,1] [2,3,4,5,6,7,8,9] EX27 rfl fun hw=>?_
     refine qo rfl hw ?_
     refine ql rfl mH trivial hw ?_
     refine wpG_nil<|qr rfl func182 (fun u hu=>(callsS_fresh (HSD.out u _ hu (fun y hy=>mT hy))).mono (fun _ _⟨x,N,k1,k2,k3⟩=>⟨x,N,k1,HSN.out x N k2,k3⟩)) ?_
     rintro _ N9 ⟨v9,rfl,hF⟩ hf he30
     have HF9:=hD (And.intro hF hf)
     clear hF
     clear hf
     refine phE [3,4,5,6,7,8,9] [] he30 fun hw=>?_
     refine qw 7 hw ?_
     refine enP fun u33 EX32=>?_
     go_upto_region 13 with (fail)
     refine rgQ [0,1] [] EX32 rfl fun hw=>?_
     refine qo rfl hw ?_
     refine qv rfl (fun u hu=>neErr_op u C13.out rfl rfl) hw ?_
     refine enP fun u36 EX35=>?_
     go_upto_region 14 with (fail)
     refine rgQ [0,1,2] [] EX35 rfl fun hw=>?_
     refine qw 3 hw ?_
     refine enP fun u39 EX38=>?_
     have HBE:=hD (EnvX.bel EX38.out)
     go_wp2
     go_returns
     exact⟨ApE.mk (k:=e3+1) (.slice none 0 0) HF2.out (fun h=>absurd h (Nat.succ_ne_zero _)),HBE.out⟩
    have C13:Hid (decide (((0:Nat):Int)≠0)=false):=decide_eq_false (by omega)
    have hstp:=run_stepO noTx HIL.out HRUN.out (by rw[HRG.out];exact HS.out)
    have HSTP:=hD hstp
    have hrb2:=run_bounds HK.out HPP.out hstp
    have HAD:Hid (IntKind.i64.wrap (50+m+m2)=50+(m+m2)):=by show _=_;rw[wrapS (by have:=hrb2.2.2.1;have:=hrb2.2.2.2.1;omega)];omega
    clear hstp hrb2
    go_upto_region 12 with (fail)
    refine rgQ [0,1] [2,3,4,5,6,7,8,9] EX27 rfl fun hw=>?_
    refine qo rfl hw ?_
    refine ql rfl mH trivial hw ?_
    refine wpG_nil<|qr rfl func182 (fun u hu=>(callsS_fresh (HSD.out u _ hu (fun y hy=>mT hy))).mono (fun _ _⟨x,N,k1,k2,k3⟩=>⟨x,N,k1,HSN.out x N k2,k3⟩)) ?_
    rintro _ N9 ⟨v9,rfl,hF⟩ hf he30
    have HF9:=hD (And.intro hF hf)
    clear hF
    clear hf
    refine phE [3,4,5,6,7,8,9] [] he30 fun hw=>?_
    refine qw 7 hw ?_
    refine enP fun u33 EX32=>?_
    go_upto_region 13 with (fail)
    refine rgQ [0,1] [] EX32 rfl fun hw=>?_
    refine qo rfl hw ?_
    refine qv rfl (fun u hu=>neErr_op u C13.out rfl rfl) hw ?_
    refine enP fun u36 EX35=>?_
    go_upto_region 15 with (fail)
    refine rgQ [0,1,2,3,4,5] [] EX35 rfl fun hw=>?_
    refine qw 3 hw ?_
    refine qv rfl (fun u hu=>addZ_op u HAD.out rfl rfl) hw ?_
    refine qw 2 hw ?_
    refine enP fun u39 EX38=>?_
    have HNX:Hid (runP p 0 ((rsT l.tail).take (i+1))= .ok (q2,(m+m2))∧ ∃N,FreshR 137 35 q2.length (q2.map coC).flatten v9 N∧freshN w N []∧EnvX w u39 N):=⟨HSTP.out,N9,HF9.out.1 rfl,fun y hy=>⟨(HF9.out.2 y hy).1,fun z hz=>by cases hz⟩,EnvX.sub EX38.out (fun y hy=>mL hy)⟩
    have hii:=HI.out
    have hn:=HNO.out.1
    go_wp2
    go_roundw
    case rel=>exact⟨i+1,q2,m+m2,by omega,by go_num,rfl,HNX⟩
    case measure=>simp[intOf];omega
  · have hino:i=(n'- 1):=by omega
    have C10:Hid (decide ((i:Int)<(((n'- 1):Nat):Int))=false):=decide_eq_false (by omega)
    have HRA:Hid (runP p 0 (if loneX (rsT l)then (rsT l).tail else rsT l)= .ok (q,m)):=by
     have h:=HRUN.out
     show _=_
     rw[HOT.out]
     rwa[tL (by unfold rsT;rw[lM,HLN.out,hino];exact Nat.le_refl _)]at h
    clear hlt hino
    go_upto_region 10 with (fail)
    refine rgQ [0] [] EK rfl fun hw=>?_
    refine qv rfl (fun u hu=>ltZ_op u C10.out rfl rfl) hw ?_
    refine enP fun u503 EX502=>?_
    go_upto_region 17 with (fail)
    refine rgQ [0,1] [] EX502 rfl fun hw=>?_
    refine qw 2 hw ?_
    refine enP fun u506 EX505=>?_
    have hap:=mintR_apply HK.out (by rw[HRL.out];have:=HK2.out;omega) HRA.out HLO.out noTx
    rw[HRG0.out]at hap
    have HAP:=hD hap
    have HCI:Hid (Rb w 133 #[txV tm0] (idv (idX tm0.r))):=fun u hu=>pidX_any tm0 u (HT0.out.up hu) (HTT.out.below hu)
    have HMI:Hid (∀u M,EnvX w u M→(∀y∈N,y∈M)→Calls Tryz.prog 183 #[.slice A3 q.length c3,txV tm0,idv (idX tm0.r), .int .i64 (50+m)] u fun e w'=>ApE (mintR q tm0.r (50+m)) w' u.heap.size e∧Below u.heap.size u w'):=fun u M hu hm=>by
     obtain⟨k1,k2,k3⟩:=mayP_iff.1 HRB.out.2.2.2.2
     have hT:=HT0.out.up (EnvX.bel hu)
     obtain⟨r,B1,m1,d1,B2,m2,d2⟩:=tm0
     exact pmint_any q A3 q.length c3 r B1 m1 d1 B2 m2 d2 (50+m) u rfl (by omega) HC3.out.1 HC3.out.2 HRB.out.1 k3 (HCO.out u M hu hm) k2 hT
    clear hap
    generalize mintR q tm0.r (50+m)=mr at *
    generalize idX tm0.r=id at *
    go_upto_region 19 with (fail)
    refine rgK [0,1,2,3,4,5,6,7,8] 5 EX505 rfl fun hw=>?_
    refine qw 2 hw ?_
    refine qv rfl (fun u hu=>idxSl_op underlying23 aggTx.size HI0.out u rfl rfl) hw ?_
    refine qv rfl (fun u hu=>load_any_op u (HLD0.out u (nl hu)).1 rfl) hw ?_
    refine qo rfl hw ?_
    refine qv rfl (fun u hu=>idxSl_op underlying23 aggTx.size HI0.out u rfl rfl) hw ?_
    refine qv rfl (fun u hu=>load_any_op u (HLD0.out u (nl hu)).1 rfl) hw ?_
    refine qc rfl func133 (fun u hu=>HCI.out u (EnvX.bel hu)) hw ?_
    refine qo rfl hw ?_
    refine wpG_nil<|aO 9 (qr rfl func183 (fun u hu=>callsA_fresh (HMI.out u _ hu (fun y hy=>hy))) ?_)
    rintro _ N9 ⟨v9,rfl,hF⟩ hf he508
    have HF9:=hD (And.intro hF hf)
    clear hF
    clear hf
    refine phF [10,11,12,13] 0 rfl he508 fun hw=>?_
    refine qw 4 hw ?_
    refine eH fun u511 EX510=>?_
    have HBE:=hD (EnvX.bel EX510.out)
    have HOW:Hid (mr.2=0→World.ownsRow u511 w.heap.size 137 35 v9 (applyP p (rsT l)).1.length (((applyP p (rsT l)).1).map coC).flatten):=fun h0=>by
     have hF:=HF9.out.1 h0
     rw[HAP.out.2 (by rw[HAP.out.1];exact h0)]
     exact hF.own (FreshR.lenOf hF) (fun y hy=>⟨(HF9.out.2 y hy).1,EnvX.box EX510.out _ _ (mL hy)⟩)
    go_wp2
    go_returns
    exact⟨ApE.mk (k:=mr.2) v9 HAP.out.1 HOW.out,HBE.out⟩
theorem papply_any(p:List CoinR)(A:Option Addr)(n c:Nat)(l:List TxM)(A':Option Addr)(n' c':Nat)(w:World)(hl:p.length=n)(hnc:n≤c)(hcm:c≤maxLen)(hI:okP p)(hA:CoinsIn w w.heap.size A p)(hl':l.length=n')(hnc':n'≤c')(hcm':c'≤maxLen)(hA':TxsIn w A' l)(htt:Tables w):
   Calls Tryz.prog 132 #[.slice A n c, .slice A' n' c'] w fun e w'=>ApE (applyP p (rsT l)) w' w.heap.size e∧Below w.heap.size w w':=by
 by_cases k:mayP p=true
 · by_cases k2:4<n'
   · exact papply_size p A n c l A' n' c' w hl hnc hcm hI hA hl' hnc' hcm' hA' htt k k2
   · by_cases k3:n'=0
     · exact papply_mainA p A n c l A' n' c' w hl hnc hcm hI hA hl' hnc' hcm' hA' htt k k2 k3
     · cases k4:loneX (rsT l)with
       |false=>exact papply_mainB p A n c l A' n' c' w hl hnc hcm hI hA hl' hnc' hcm' hA' htt k k2 (by omega) k4
       |true=>exact papply_mainC p A n c l A' n' c' w hl hnc hcm hI hA hl' hnc' hcm' hA' htt k k2 (by omega) k4
 · exact papply_arg p A n c l A' n' c' w hl hnc hcm hI hA hl' hnc' hcm' hA' htt (by simpa using k)
theorem pApplyP_any(p:List CoinR)(A:Option Addr)(n c:Nat)(l:List TxM)(A':Option Addr)(n' c':Nat)(w:World)(hl:p.length=n)(hnc:n≤c)(hcm:c≤maxLen)(hI:okP p)(hA:CoinsIn w w.heap.size A p)(hn:n≤1000)(hl':l.length=n')(hnc':n'≤c')(hcm':c'≤maxLen)(hA':TxsIn w A' l)(htt:Tables w):
  Calls Tryz.prog 78 #[.slice A n c, .slice A' n' c'] w fun e w'=>(∃v,e= .returned (.tuple #[v, .int .i64 ((applyP p (rsT l)).2:Int)])∧CoSl w' v (applyP p (rsT l)).1)∧Below w.heap.size w w':=by
 have HSD:Hid (∀u,Below w.heap.size w u→Calls Tryz.prog 132 #[.slice A n c, .slice A' n' c'] u fun e w'=>ApE (applyP p (rsT l)) w' u.heap.size e∧Below u.heap.size u w'):=fun u hu=>
  papply_any p A n c l A' n' c' u hl hnc hcm hI (CellsIn.up hA hu) hl' hnc' hcm' (hA'.up hu) (htt.below hu)
 have HCLN:Hid (∀u,Below w.heap.size w u→Calls Tryz.prog 131 #[.slice A n c] u fun e w'=>(∃v,e= .returned v∧w'.ownsRow u.heap.size 137 35 v n (p.map coC).flatten)∧Below u.heap.size u w'):=fun u hu=>pclone_any p A n c u hl (by omega) hI (CellsIn.up hA hu)
 have E1:Hid (EnvX w w []):=EnvX.start w
 have HL:=hD hl
 have he1:(applyP p (rsT l)).2≠0→(applyP p (rsT l)).1=p:=apply_wrong hI.id (rsT l)
 have HSN:Hid (∀x N,ApN (applyP p (rsT l)) x N→ ∃v,x= .tuple #[v, .int .i64 ((applyP p (rsT l)).2:Int)]∧((applyP p (rsT l)).2=0→FreshR 137 35 (applyP p (rsT l)).1.length (((applyP p (rsT l)).1).map coC).flatten v N)):=fun x N h=>h
 clear hl hn hnc hcm hI hA hl' hnc' hcm' hA' htt
 generalize applyP p (rsT l)=a at *
 obtain⟨q,e⟩:=a
 simp only at HSN he1 ⊢
 by_cases hz:e=0
 case neg=>
  obtain rfl:=he1 hz
  have C2:Hid (decide ((e:Int)≠0)=true):=decide_eq_true (by omega)
  clear he1 hz
  go_enter func78,ntmps78
  go_upto_region 1 with (fail)
  refine rgQ [0,1] [2,3,4,5,6,7] E1 rfl fun hw=>?_
  refine qw 2 hw ?_
  refine wpG_nil<|qr rfl func132 (fun u hu=>(callsA_fresh (HSD.out u (EnvX.bel hu))).mono (fun _ _⟨x,N,k1,k2,k3⟩=>⟨x,N,k1,HSN.out x N k2,k3⟩)) ?_
  rintro _ N0 ⟨v0,rfl,hF⟩ hf he2
  have HF0:=hD (And.intro hF hf)
  clear hF
  clear hf
  change lexH _ _ _ _ _ _ (N0++[])
  rw[List.append_nil]at he2 ⊢
  refine phE [3,4,5,6,7] [] he2 fun hw=>?_
  refine qw 5 hw ?_
  refine enP fun u5 EX4=>?_
  go_upto_region 2 with (fail)
  refine rgQ [0,1] [] EX4 rfl fun hw=>?_
  refine qo rfl hw ?_
  refine qv rfl (fun u hu=>neErr_op u C2.out rfl rfl) hw ?_
  refine enP fun u8 EX7=>?_
  go_upto_region 3 with (fail)
  refine rgQ [0] [1,2,3,4] EX7 rfl fun hw=>?_
  refine qo rfl hw ?_
  refine wpG_nil<|qr rfl func131 (fun u hu=>callsR_fresh (HCLN.out u (EnvX.bel hu))) ?_
  rintro x9 N9 hF hf he10
  have HF9:=hD (And.intro hF hf)
  clear hF
  clear hf
  refine phE [2,3,4] [] he10 fun hw=>?_
  refine qw 3 hw ?_
  refine enP fun u13 EX12=>?_
  have HCS:Hid (CoSl u13 x9 q):=by
   obtain⟨A9,c9,rfl,k1,k2⟩:=FreshR.formC HF9.out.1
   exact⟨A9,c9,by rw[HL.out],by rw[HL.out];exact k1,k2,own_cells (HF9.out.1.own (B:=0) (FreshR.lenOf HF9.out.1) (fun y hy=>⟨Nat.zero_le _,EnvX.box EX12.out _ _ (mL hy)⟩))⟩
  have HBE:=hD (EnvX.bel EX12.out)
  go_wp2
  go_returns
  exact⟨⟨x9,rfl,HCS.out⟩,HBE.out⟩
 case pos=>
  subst hz
  have C2:Hid (decide (((0:Nat):Int)≠0)=false):=decide_eq_false (by omega)
  clear he1
  go_enter func78,ntmps78
  go_upto_region 1 with (fail)
  refine rgQ [0,1] [2,3,4,5,6,7] E1 rfl fun hw=>?_
  refine qw 2 hw ?_
  refine wpG_nil<|qr rfl func132 (fun u hu=>(callsA_fresh (HSD.out u (EnvX.bel hu))).mono (fun _ _⟨x,N,k1,k2,k3⟩=>⟨x,N,k1,HSN.out x N k2,k3⟩)) ?_
  rintro _ N0 ⟨v0,rfl,hF⟩ hf he2
  have HF0:=hD (And.intro hF hf)
  clear hF
  clear hf
  change lexH _ _ _ _ _ _ (N0++[])
  rw[List.append_nil]at he2 ⊢
  refine phE [3,4,5,6,7] [] he2 fun hw=>?_
  refine qw 5 hw ?_
  refine enP fun u5 EX4=>?_
  go_upto_region 2 with (fail)
  refine rgQ [0,1] [] EX4 rfl fun hw=>?_
  refine qo rfl hw ?_
  refine qv rfl (fun u hu=>neErr_op u C2.out rfl rfl) hw ?_
  refine enP fun u8 EX7=>?_
  go_upto_region 4 with (fail)
  refine rgQ [0,1,2] [] EX7 rfl fun hw=>?_
  refine qw 3 hw ?_
  refine enP fun u11 EX10=>?_
  have HFF:=HF0.out.1 rfl
  have HCS:Hid (CoSl u11 v0 q):=by
   obtain⟨A9,c9,rfl,k1,k2⟩:=FreshR.formC HFF
   exact⟨A9,c9,rfl,k1,k2,own_cells (HFF.own (B:=0) (FreshR.lenOf HFF) (fun y hy=>⟨Nat.zero_le _,EnvX.box EX10.out _ _ hy⟩))⟩
  have HBE:=hD (EnvX.bel EX10.out)
  go_wp2
  go_returns
  exact⟨⟨v0,rfl,HCS.out⟩,HBE.out⟩
section
variable {a:Act}{dst:Option Tmp}{ty:TypeId}{pos:String}{after:Array Edge}{gd:Option (Nat × Bool)}
theorem FAt_vcloneX0(u:World):FAt Tryz.prog ⟨dst, .buildSlice 23 0 #[],ty,pos,after,gd⟩ a (fun v N=> ∃g,v= .slice (some ⟨g,0,none⟩) 0 0∧N=[(g,oc #[] 77)]) u:=by
 have h:(execOp a.eval ⟨dst, .buildSlice 23 0 #[],ty,pos,after,gd⟩).run Tryz.prog u= .ok (.value (.slice (some ⟨u.heap.size,0,none⟩) 0 0)) (u.alloc (.cells #[] 77)):=by
  unfold execOp
  go_simp
 unfold FAt
 rw[h]
 refine⟨(Below.refl _ _).alloc (Nat.le_refl _) _,_,⟨_,rfl,rfl⟩,fun y hy=>?_⟩
 cases mS.1 hy
 exact⟨Nat.le_refl _,heap_alloc_new u _⟩
end
theorem vcloneX(p:List TxM)(A:Option Addr)(n c:Nat)(w:World)(hl:p.length=n)(hn:n≤1000000)(hA:TxsIn w A p):
  Calls Tryz.prog 178 #[.slice A n c] w fun e w'=>(∃v,e= .returned v∧w'.ownsRow w.heap.size 77 2 v n (p.map txC).flatten)∧Below w.heap.size w w':=by
 have HPL:Hid ((p.map txC).flatten.length=n*2):=by show _=_;rw[(rowsTx p).flat_len,lM,hl]
 have HNB:Hid (n≤1000000):=hn
 have HON:Hid (∀v∈(p.map txC).flatten,v.oneCell'=true):=fun v hv=>by obtain⟨x,hx,hv⟩:=List.mem_flatten.1 hv;obtain⟨y,_,rfl⟩:=List.mem_map.1 hx;exact txC_one y v hv
 have E1:Hid (EnvX w w []):=EnvX.start w
 have q22: ∀(w:World)(a:Option Addr)(n c n' c':Nat),(binOp .eql 23 (.slice a n c) (.slice none n' c')).run Tryz.prog w= .ok (.bool a.isNone) w:=fun w a n c n' c'=>Lib.run_eql_slice_nil w _ _ a n c n' c' underlying23
 cases A with
 | none=>
  obtain rfl:p=[]:=by
   refine List.eq_nil_of_length_eq_zero (Nat.eq_zero_of_not_pos fun hp=>?_)
   obtain⟨ad,e,_⟩:=hA.loads (k:=0) hp
   cases e
  subst hl
  clear hA HPL
  go_enter func178,ntmps178
  go_wp2
  go_ret
  exact⟨⟨_,rfl,World.ownsRow_nil _ _ _ _⟩,Below.refl _ _⟩
 |some ad=>
  have HA:Hid (CellsIn w w.heap.size (some ad) (p.map txC).flatten):=hA.cells
  clear hA hl
  go_enter func178,ntmps178
  go_upto_region 3 with (fail)
  refine wp_region_Hx (w0:=w) [0,1,2,3] [] rfl E1.out ?_
  refine(hOp_fresh (R:=fun v N=> ∃g,v= .slice (some ⟨g,0,none⟩) 0 0∧N=[(g,oc #[] 77)]) (M0:=[]) rfl rfl (fun _ h=>h) (fun u hu=>FAt_vcloneX0 u) ?_)
  rintro _ _ ⟨g0,rfl,rfl⟩ hf he1;intro K' hK';go_big_quiet_op;go_big_quiet_on
  have HG0:=hD (hf _ (mS.2 rfl))
  clear hf
  refine phE [1] [2,3] he1 fun hw=>?_
  refine qo rfl hw ?_
  refine wpG_nil<|(hOp_own (gd:=none) (R:=GrownR w 77 2 (0+n) ([]++(p.map txC).flatten) []) rfl rfl rfl rfl (fun u hu=>appX_op elTx (n:=0) (m:=n) (xs:=[]) [] hu rfl HPL.out HON.out (.inl ⟨g0,0,#[],rfl,rfl,Nat.le_refl _,Nat.zero_le _,rfl,rfl⟩) (mA ⟨⟨mH,HG0.out.1⟩,fun _ h=>by cases h⟩) (src_in HA.out (EnvX.bel hu)) (fun _ h=>by cases h) (by have:=HNB.out;omega) rfl rfl) ?_)
  rintro x1 M' ⟨N2,rfl,hF2,hn2⟩ he3;intro K' hK';go_big_quiet_op;go_big_quiet_on
  have HF2:=hD (And.intro hF2 hn2)
  clear hF2 hn2
  refine phE [3] [] he3 fun hw=>?_
  refine qo rfl hw ?_
  refine enP fun u6 EX5=>?_
  go_wp2
  go_ret
  refine⟨⟨_,rfl,?_⟩,EnvX.bel EX5.out⟩
  have h:=HF2.out.1
  rw[List.nil_append,Nat.zero_add]at h
  exact h.own HPL.out (fun y hy=>⟨(HF2.out.2 y hy).1,EnvX.box EX5.out _ _ (mL hy)⟩)
section
variable {a:Act}{dst:Option Tmp}{ty:TypeId}{pos:String}{after:Array Edge}{gd:Option (Nat × Bool)}
theorem FAt_vcloneI0(u:World):FAt Tryz.prog ⟨dst, .buildSlice 74 0 #[],ty,pos,after,gd⟩ a (fun v N=> ∃g,v= .slice (some ⟨g,0,none⟩) 0 0∧N=[(g,oc #[] 133)]) u:=by
 have h:(execOp a.eval ⟨dst, .buildSlice 74 0 #[],ty,pos,after,gd⟩).run Tryz.prog u= .ok (.value (.slice (some ⟨u.heap.size,0,none⟩) 0 0)) (u.alloc (.cells #[] 133)):=by
  unfold execOp
  go_simp
 unfold FAt
 rw[h]
 refine⟨(Below.refl _ _).alloc (Nat.le_refl _) _,_,⟨_,rfl,rfl⟩,fun y hy=>?_⟩
 cases mS.1 hy
 exact⟨Nat.le_refl _,heap_alloc_new u _⟩
end
theorem vcloneI(p:List InR)(A:Option Addr)(n c:Nat)(w:World)(hl:p.length=n)(hn:n≤1000000)(hI:okIns p)(hA:InsIn w w.heap.size A p):
  Calls Tryz.prog 152 #[.slice A n c] w fun e w'=>(∃v,e= .returned v∧w'.ownsRow w.heap.size 133 33 v n (p.map inC).flatten)∧Below w.heap.size w w':=by
 have HPL:Hid ((p.map inC).flatten.length=n*33):=by show _=_;rw[(rowsIn hI).flat_len,lM,hl]
 have HNB:Hid (n≤1000000):=hn
 have HON:Hid (∀v∈(p.map inC).flatten,v.oneCell'=true):=fun v hv=>by obtain⟨x,hx,hv⟩:=List.mem_flatten.1 hv;obtain⟨y,_,rfl⟩:=List.mem_map.1 hx;exact inC_one y v hv
 have E1:Hid (EnvX w w []):=EnvX.start w
 have q22: ∀(w:World)(a:Option Addr)(n c n' c':Nat),(binOp .eql 74 (.slice a n c) (.slice none n' c')).run Tryz.prog w= .ok (.bool a.isNone) w:=fun w a n c n' c'=>Lib.run_eql_slice_nil w _ _ a n c n' c' underlying74
 cases A with
 | none=>
  obtain rfl:p=[]:=by
   refine List.eq_nil_of_length_eq_zero (Nat.eq_zero_of_not_pos fun hp=>?_)
   obtain⟨ad,e,_⟩:=hA.loads hI (k:=0) hp
   cases e
  subst hl
  clear hI hA HPL
  go_enter func152,ntmps152
  go_wp2
  go_ret
  exact⟨⟨_,rfl,World.ownsRow_nil _ _ _ _⟩,Below.refl _ _⟩
 |some ad=>
  have HA:Hid (CellsIn w w.heap.size (some ad) (p.map inC).flatten):=hA
  clear hI hA hl
  go_enter func152,ntmps152
  go_upto_region 3 with (fail)
  refine wp_region_Hx (w0:=w) [0,1,2,3] [] rfl E1.out ?_
  refine(hOp_fresh (R:=fun v N=> ∃g,v= .slice (some ⟨g,0,none⟩) 0 0∧N=[(g,oc #[] 133)]) (M0:=[]) rfl rfl (fun _ h=>h) (fun u hu=>FAt_vcloneI0 u) ?_)
  rintro _ _ ⟨g0,rfl,rfl⟩ hf he1;intro K' hK';go_big_quiet_op;go_big_quiet_on
  have HG0:=hD (hf _ (mS.2 rfl))
  clear hf
  refine phE [1] [2,3] he1 fun hw=>?_
  refine qo rfl hw ?_
  refine wpG_nil<|(hOp_own (gd:=none) (R:=GrownR w 133 33 (0+n) ([]++(p.map inC).flatten) []) rfl rfl rfl rfl (fun u hu=>appX_op elIn (n:=0) (m:=n) (xs:=[]) [] hu rfl HPL.out HON.out (.inl ⟨g0,0,#[],rfl,rfl,Nat.le_refl _,Nat.zero_le _,rfl,rfl⟩) (mA ⟨⟨mH,HG0.out.1⟩,fun _ h=>by cases h⟩) (src_in HA.out (EnvX.bel hu)) (fun _ h=>by cases h) (by have:=HNB.out;omega) rfl rfl) ?_)
  rintro x1 M' ⟨N2,rfl,hF2,hn2⟩ he3;intro K' hK';go_big_quiet_op;go_big_quiet_on
  have HF2:=hD (And.intro hF2 hn2)
  clear hF2 hn2
  refine phE [3] [] he3 fun hw=>?_
  refine qo rfl hw ?_
  refine enP fun u6 EX5=>?_
  go_wp2
  go_ret
  refine⟨⟨_,rfl,?_⟩,EnvX.bel EX5.out⟩
  have h:=HF2.out.1
  rw[List.nil_append,Nat.zero_add]at h
  exact h.own HPL.out (fun y hy=>⟨(HF2.out.2 y hy).1,EnvX.box EX5.out _ _ (mL hy)⟩)
section
variable {a:Act}{dst:Option Tmp}{ty:TypeId}{pos:String}{after:Array Edge}{gd:Option (Nat × Bool)}
theorem FAt_vcloneO0(u:World):FAt Tryz.prog ⟨dst, .buildSlice 75 0 #[],ty,pos,after,gd⟩ a (fun v N=> ∃g,v= .slice (some ⟨g,0,none⟩) 0 0∧N=[(g,oc #[] 135)]) u:=by
 have h:(execOp a.eval ⟨dst, .buildSlice 75 0 #[],ty,pos,after,gd⟩).run Tryz.prog u= .ok (.value (.slice (some ⟨u.heap.size,0,none⟩) 0 0)) (u.alloc (.cells #[] 135)):=by
  unfold execOp
  go_simp
 unfold FAt
 rw[h]
 refine⟨(Below.refl _ _).alloc (Nat.le_refl _) _,_,⟨_,rfl,rfl⟩,fun y hy=>?_⟩
 cases mS.1 hy
 exact⟨Nat.le_refl _,heap_alloc_new u _⟩
end
theorem vcloneO(p:List OutR)(A:Option Addr)(n c:Nat)(w:World)(hl:p.length=n)(hn:n≤1000000)(hA:OutsIn w w.heap.size A p):
  Calls Tryz.prog 153 #[.slice A n c] w fun e w'=>(∃v,e= .returned v∧w'.ownsRow w.heap.size 135 2 v n (p.map outC).flatten)∧Below w.heap.size w w':=by
 have HPL:Hid ((p.map outC).flatten.length=n*2):=by show _=_;rw[(rowsOut p).flat_len,lM,hl]
 have HNB:Hid (n≤1000000):=hn
 have HON:Hid (∀v∈(p.map outC).flatten,v.oneCell'=true):=fun v hv=>by obtain⟨x,hx,hv⟩:=List.mem_flatten.1 hv;obtain⟨y,_,rfl⟩:=List.mem_map.1 hx;exact outC_one y v hv
 have E1:Hid (EnvX w w []):=EnvX.start w
 have q22: ∀(w:World)(a:Option Addr)(n c n' c':Nat),(binOp .eql 75 (.slice a n c) (.slice none n' c')).run Tryz.prog w= .ok (.bool a.isNone) w:=fun w a n c n' c'=>Lib.run_eql_slice_nil w _ _ a n c n' c' underlying75
 cases A with
 | none=>
  obtain rfl:p=[]:=by
   refine List.eq_nil_of_length_eq_zero (Nat.eq_zero_of_not_pos fun hp=>?_)
   obtain⟨ad,e,_⟩:=hA.loads (k:=0) hp
   cases e
  subst hl
  clear hA HPL
  go_enter func153,ntmps153
  go_wp2
  go_ret
  exact⟨⟨_,rfl,World.ownsRow_nil _ _ _ _⟩,Below.refl _ _⟩
 |some ad=>
  have HA:Hid (CellsIn w w.heap.size (some ad) (p.map outC).flatten):=hA
  clear hA hl
  go_enter func153,ntmps153
  go_upto_region 3 with (fail)
  refine wp_region_Hx (w0:=w) [0,1,2,3] [] rfl E1.out ?_
  refine(hOp_fresh (R:=fun v N=> ∃g,v= .slice (some ⟨g,0,none⟩) 0 0∧N=[(g,oc #[] 135)]) (M0:=[]) rfl rfl (fun _ h=>h) (fun u hu=>FAt_vcloneO0 u) ?_)
  rintro _ _ ⟨g0,rfl,rfl⟩ hf he1;intro K' hK';go_big_quiet_op;go_big_quiet_on
  have HG0:=hD (hf _ (mS.2 rfl))
  clear hf
  refine phE [1] [2,3] he1 fun hw=>?_
  refine qo rfl hw ?_
  refine wpG_nil<|(hOp_own (gd:=none) (R:=GrownR w 135 2 (0+n) ([]++(p.map outC).flatten) []) rfl rfl rfl rfl (fun u hu=>appX_op elOut (n:=0) (m:=n) (xs:=[]) [] hu rfl HPL.out HON.out (.inl ⟨g0,0,#[],rfl,rfl,Nat.le_refl _,Nat.zero_le _,rfl,rfl⟩) (mA ⟨⟨mH,HG0.out.1⟩,fun _ h=>by cases h⟩) (src_in HA.out (EnvX.bel hu)) (fun _ h=>by cases h) (by have:=HNB.out;omega) rfl rfl) ?_)
  rintro x1 M' ⟨N2,rfl,hF2,hn2⟩ he3;intro K' hK';go_big_quiet_op;go_big_quiet_on
  have HF2:=hD (And.intro hF2 hn2)
  clear hF2 hn2
  refine phE [3] [] he3 fun hw=>?_
  refine qo rfl hw ?_
  refine enP fun u6 EX5=>?_
  go_wp2
  go_ret
  refine⟨⟨_,rfl,?_⟩,EnvX.bel EX5.out⟩
  have h:=HF2.out.1
  rw[List.nil_append,Nat.zero_add]at h
  exact h.own HPL.out (fun y hy=>⟨(HF2.out.2 y hy).1,EnvX.box EX5.out _ _ (mL hy)⟩)
end Go.Proofs.YtojmeodoenkapaaGreatDoor
