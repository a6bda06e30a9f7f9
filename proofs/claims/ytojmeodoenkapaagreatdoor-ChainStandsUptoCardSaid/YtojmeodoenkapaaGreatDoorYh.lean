/- Part of a proof. -/
import Derived.Test.YtojmeodoenkapaaGreatDoorYg
import Derived.Lib.MinMax
import Derived.Lib.SliceRun
import Derived.Deep.QuietTactic
import Derived.StillTailTactics
open Go.Proofs.Tryz
namespace Go.Proofs.YtojmeodoenkapaaGreatDoor
set_option maxRecDepth 20000
set_option maxHeartbeats 8000000
set_option linter.unusedVariables false
set_option linter.unusedSimpArgs false
open Go.RowKit
section
variable {a:Act}{dst:Option Tmp}{x y:Operand}{ty:TypeId}{pos:String}{after:Array Edge}{gd:Option (Nat × Bool)}
theorem minZ_op{m k:Int}(u:World)(hx:a.eval x= .int .i64 m)(hy:a.eval y= .int .i64 k){ats:Array TypeId}:
  (execOp a.eval ⟨dst, .call {callee:= .builtin .min,args:= #[x,y],argTypes:=ats},ty,pos,after,gd⟩).run Tryz.prog u= .ok (.value (.int .i64 (min m k))) u:=by
 unfold execOp
 simp only[resolve,invoke,builtin,Sem.run_bind,Sem.run_pure,Result.andThen_ok,List.map_toArray,List.map_cons,List.map_nil,hx,hy,Lib.run_min_ints]
theorem FAt_ids0(u:World):FAt Tryz.prog ⟨dst, .buildSlice 35 0 #[],ty,pos,after,gd⟩ a (fun v N=> ∃g,v= .slice (some ⟨g,0,none⟩) 0 0∧N=[(g,oc #[] 26)]) u:=by
 have h:(execOp a.eval ⟨dst, .buildSlice 35 0 #[],ty,pos,after,gd⟩).run Tryz.prog u= .ok (.value (.slice (some ⟨u.heap.size,0,none⟩) 0 0)) (u.alloc (.cells #[] 26)):=by
  unfold execOp
  go_simp
 unfold FAt
 rw[h]
 refine⟨(Below.refl _ _).alloc (Nat.le_refl _) _,_,⟨_,rfl,rfl⟩,fun y hy=>?_⟩
 cases mS.1 hy
 exact⟨Nat.le_refl _,heap_alloc_new u _⟩
end
theorem lclone_any(l:List (List Int))(A:Option Addr)(n c:Nat)(w:World)(hl:l.length=n)(hn:n≤1000000)(hI:isIds l)(hA:IdsIn w w.heap.size A l):
  Calls Tryz.prog 97 #[.slice A n c] w fun e w'=>(∃v,e= .returned v∧OwnI w' w.heap.size v l)∧Below w.heap.size w w':=by
 have HPL:Hid ((l.flatten.map u8v).length=n*32):=by show _=_;rw[lM,hI.flat_len,hl]
 have HNB:Hid (n≤1000000):=hn
 have HLN:=hD hl
 have E1:Hid (EnvX w w []):=EnvX.start w
 have q22: ∀(w:World)(a:Option Addr)(n c n' c':Nat),(binOp .eql 35 (.slice a n c) (.slice none n' c')).run Tryz.prog w= .ok (.bool a.isNone) w:=fun w a n c n' c'=>Lib.run_eql_slice_nil w _ _ a n c n' c' underlying35
 cases A with
 | none=>
  obtain rfl:l=[]:=by
   refine List.eq_nil_of_length_eq_zero (Nat.eq_zero_of_not_pos fun hp=>?_)
   obtain⟨ad,e,_⟩:=hA.load hI (i:=0) hp
   cases e
  subst hl
  clear hI hA HPL
  go_enter func97,ntmps97
  go_wp2
  go_ret
  exact⟨⟨_,rfl,OwnI.nil _ _⟩,Below.refl _ _⟩
 | some ad=>
  have HA:Hid (CellsIn w w.heap.size (some ad) (l.flatten.map u8v)):=fun hp=>by
   obtain⟨ad',e,hb,hc⟩:=hA (by rwa[lM]at hp)
   exact⟨ad',e,hb,hc⟩
  clear hI hA hl
  go_enter func97,ntmps97
  go_upto_region 3 with (fail)
  refine wp_region_Hx (w0:=w) [0,1,2,3] [] rfl E1.out ?_
  refine(hOp_fresh (R:=fun v N=> ∃g,v= .slice (some ⟨g,0,none⟩) 0 0∧N=[(g,oc #[] 26)]) (M0:=[]) rfl rfl (fun _ h=>h) (fun u hu=>FAt_ids0 u) ?_)
  rintro _ _ ⟨g0,rfl,rfl⟩ hf he1;intro K' hK';go_big_quiet_op;go_big_quiet_on
  have HG0:=hD (hf _ (mS.2 rfl))
  clear hf
  refine phE [1] [2,3] he1 fun hw=>?_
  refine qo rfl hw ?_
  refine wpG_nil<|(hOp_own (gd:=none) (R:=GrownR w 26 32 (0+n) ([]++l.flatten.map u8v) []) rfl rfl rfl rfl (fun u hu=>appX_op elIdL (n:=0) (m:=n) (xs:=[]) [] hu rfl HPL.out u8_ones (.inl ⟨g0,0,#[],rfl,rfl,Nat.le_refl _,Nat.zero_le _,rfl,rfl⟩) (mA ⟨⟨mH,HG0.out.1⟩,fun _ h=>by cases h⟩) (src_in HA.out (EnvX.bel hu)) (fun _ h=>by cases h) (by have:=HNB.out;omega) rfl rfl) ?_)
  rintro x1 M' ⟨N2,rfl,hF2,hn2⟩ he3;intro K' hK';go_big_quiet_op;go_big_quiet_on
  have HF2:=hD (And.intro hF2 hn2)
  clear hF2 hn2
  refine phE [3] [] he3 fun hw=>?_
  refine qo rfl hw ?_
  refine enP fun u6 EX5=>?_
  go_wp2
  go_ret
  refine⟨⟨_,rfl,?_⟩,EnvX.bel EX5.out⟩
  have h:=HF2.out.1
  rw[List.nil_append,Nat.zero_add]at h
  have h2:=h.own HPL.out (fun y hy=>⟨(HF2.out.2 y hy).1,EnvX.box EX5.out _ _ (mL hy)⟩)
  unfold OwnI
  rw[HLN.out]
  exact h2
theorem link_next_many(l:List (List Int))(id:List Int)(lev:Int)(A:Option Addr)(n c:Nat)(w:World)(hl:l.length=n)(hn:n≤1000000)(hlev:I64 lev)(hI:isIds l)(hid:isId id)(hA:IdsIn w w.heap.size A l)(k1:32<n):
  Calls Tryz.prog 124 #[.slice A n c,idv id, .int .i64 lev] w fun e w'=>(∃v,e= .returned v∧OwnI w' w.heap.size v (nextT l id lev))∧Below w.heap.size w w':=by
 rw[next_many (by omega)]
 have k1':(n:Int)>32:=by omega
 have HB:Below w.heap.size w (w.alloc (.cells (arrB 32 id) 26)):=(Below.refl _ _).alloc (Nat.le_refl _) _
 clear hid hI hA hl
 unfold idv
 go_enter func124,ntmps124
 go_wp2
 go_ret
 exact⟨⟨_,rfl,OwnI.nil _ _⟩,HB⟩
theorem link_next_none(id:List Int)(lev:Int)(A:Option Addr)(c:Nat)(w:World)(hid:isId id):
  Calls Tryz.prog 124 #[.slice A 0 c,idv id, .int .i64 lev] w fun e w'=>(∃v,e= .returned v∧OwnI w' w.heap.size v (nextT [] id lev))∧Below w.heap.size w w':=by
 rw[next_none]
 have HD:=hD hid
 have E1:Hid (EnvX w (w.alloc (.cells (arrB 32 id) 26)) [(w.heap.size,oc (arrB 32 id) 26)]):=(EnvX.start w).new _
 clear hid
 unfold idv
 go_enter func124,ntmps124
 go_upto_region 4 with (fail)
 generalize w.alloc (.cells (arrB 32 id) 26)=W at *
 refine rgQ [0] [1,2] E1 rfl fun hw=>?_
 refine qv rfl (fun u hu=>load_run_op u (box_load hu mH HD.out.1) rfl) hw ?_
 refine wpG_nil<|(hOp_fresh (R:=BuiltI id) (M0:=[(w.heap.size,oc (arrB 32 id) 26)]) rfl rfl (fun _ h=>h) (fun u hu=>FAt_buildI HD.out.1 rfl u) ?_)
 rintro _ _ ⟨gq,rfl,rfl⟩ hf he2;intro K' hK';go_big_quiet_op;go_big_quiet_on
 have HGQ:=hD (hf _ (mS.2 rfl))
 clear hf
 refine phE [2] [] he2 fun hw=>?_
 refine qo rfl hw ?_
 refine enP fun u5 EX4=>?_
 go_wp2
 go_ret
 have hF:FreshI [id] (.slice (some ⟨gq,0,none⟩) 1 1) [(gq,oc (arrB 32 id) 26)]:= .inl ⟨gq,1,arrB 32 id,rfl,rfl,Nat.le_refl _,by decide,arrB_size _ _ (by rw[HD.out.1];omega),by
  rw[arrId_map HD.out.1]
  show (id.map u8v).take 32=(id++[]).map u8v
  rw[List.append_nil,tL (by rw[lM,HD.out.1];exact Nat.le_refl _)]⟩
 exact⟨⟨_,rfl,hF.own (fun y hy=>by cases mS.1 hy;exact HD.out) (fun y hy=>by cases mS.1 hy;exact⟨HGQ.out.1,EnvX.box EX4.out _ _ mH⟩)⟩,EnvX.bel EX4.out⟩
theorem link_next_some(x:List Int)(r:List (List Int))(l:List (List Int))(hxr:l=x::r)(id:List Int)(lev:Int)(A:Option Addr)(n c:Nat)(w:World)(hl:l.length=n)(hn:n≤1000000)(hlev:I64 lev)(hI:isIds l)(hid:isId id)(hA:IdsIn w w.heap.size A l)(h32:n≤32):
  Calls Tryz.prog 124 #[.slice A n c,idv id, .int .i64 lev] w fun e w'=>(∃v,e= .returned v∧OwnI w' w.heap.size v (nextT l id lev))∧Below w.heap.size w w':=by
 have HX0:=hD hxr
 have hrl:r.length+1=n:=by rw[←hl,hxr];rfl
 have HCL:Hid (∀u,Below w.heap.size w u→Calls Tryz.prog 97 #[.slice A n c] u fun e w'=>(∃v,e= .returned v∧OwnI w' u.heap.size v l)∧Below u.heap.size u w'):=fun u hu=>lclone_any l A n c u hl hn hI (hA.up hu)
 have HIL:=hD hI
 rw[hxr,next_some (by omega)]
 have HN:Hid (n≤32):=h32
 have HRL:=hD hrl
 have HII:Hid (isIds (x::r)):=by rw[←hxr];exact hI
 have HLE0:=hD hl
 have hlv:=lvN_le lev
 have n32: ¬(n:Int)>32:=by omega
 have n0: ¬(n:Int)=0:=by omega
 unfold I64 at hlev
 clear hI hA hl hxr hrl
 have HD:=hD hid
 have E1:Hid (EnvX w (w.alloc (.cells (arrB 32 id) 26)) [(w.heap.size,oc (arrB 32 id) 26)]):=(EnvX.start w).new _
 clear hid
 unfold idv
 go_enter func124,ntmps124
 go_upto_region 5 with (fail)
 generalize w.alloc (.cells (arrB 32 id) 26)=W at *
 refine rgQ [0] [1,2] E1 rfl fun hw=>?_
 refine qo rfl hw ?_
 refine wpG_nil<|qr rfl func97 (fun u hu=>callsI_fresh (HCL.out u (EnvX.bel hu))) ?_
 rintro x0 N0 hF hf he2
 have HF0:=hD (And.intro hF hf)
 clear hF
 clear hf
 refine phE [2] [] he2 fun hw=>?_
 refine qo rfl hw ?_
 refine enP fun u5 EX4=>?_
 have HIN:Hid (NInv w id (stepL x r id 0) x0 u5):=⟨N0,by
  rw[step_zero,←HX0.out]
  exact HF0.out.1,fun y hy=>⟨(HF0.out.2 y hy).1,(HF0.out.2 y hy).2⟩,EX4.out⟩
 clear EX4 E1 HF0
 go_upto_region 7 with (fail)
 go_loopw [7,8] (fun v iv u=> ∃k:Nat,k≤lvN lev∧iv= .int .i64 ((k+1:Nat):Int)∧Hid (NInv w id (stepL x r id k) v u)) (fun _ iv _=>32- (intOf iv).toNat)
 case atStart=>exact⟨0,Nat.zero_le _,rfl,HIN⟩
 case round=>
  obtain⟨k,hk,rfl,hinv⟩:=hrel
  obtain⟨N,hF,hN,hE⟩:=hinv.out
  clear hinv HIN
  have hXl:=step_len x r id k
  obtain⟨X,hX⟩: ∃X,stepL x r id k=X:=⟨_,rfl⟩
  have hXI:isIds X:=by rw[←hX];exact step_ids HII.out HD.out
  rw[hX]at hF hXl
  obtain⟨g,cap,cur,rfl,rfl,hc⟩:=hF.full (by omega)
  have HFX:=hD hF
  have HXI:Hid (isIds X∧X.length≤1000000):=⟨hXI,by have:=HN.out;have:=HRL.out;omega⟩
  have HGG:Hid (w.heap.size≤g∧w.heap.size≠g):=⟨(hN _ (mS.2 rfl)).1,(hN _ (mS.2 rfl)).2 _ mH⟩
  have EK:Hid (EnvX w wr [(g,oc cur 26),(w.heap.size,oc (arrB 32 id) 26)]):=hE
  clear hN hE hXI
  by_cases hlt:k<lvN lev
  · have HLE:Hid (decide (((k+1:Nat):Int)≤min lev 31)=true):=decide_eq_true (by unfold lvN at hlt;omega)
    have HKL:Hid (k+1≤lvN lev∧k+1≤31):=⟨hlt,by omega⟩
    have HC:=hD hc
    have HXL:=hD hXl
    have HXX:=hD hX
    have HFF:=hD hF
    have hb31:((k+1:Nat):Int)≤31:=by omega
    clear hc hXl hX hF hlt hk
    obtain⟨xl,hxl⟩: ∃xl,X.length=xl:=⟨_,rfl⟩
    have HXN:=hD hxl
    rw[hxl]
    clear hxl
    go_upto_region 7 with (fail)
    refine rgQ [0,1,2,3] [] EK rfl fun hw=>?_
    refine qw 2 hw ?_
    refine qv (v:= .int .i64 (min lev 31)) rfl (fun u hu=>minZ_op u rfl rfl) hw ?_
    refine qv rfl (fun u hu=>leZ_op u HLE.out rfl rfl) hw ?_
    refine enP fun u63 EX62=>?_
    by_cases hrk:k<r.length
    · have q3: ¬((k+1:Nat):Int)=(xl:Int):=by have:=HXN.out;have:=HXL.out;omega
      have HKX:Hid (k+1<xl):=by show _<_;have:=HXN.out;have:=HXL.out;omega
      obtain⟨cs,hcs,h5,h6⟩:=setI_facts (X:=X) (k:=k+1) HXI.out.1 HXN.out HD.out.1 HKX.out (by rw[←HXN.out];exact HC.out.1) HC.out.2.2.1 (by rw[←HXN.out];exact HC.out.2.2.2)
      have hset:=step_set (x:=x) (id:=id) hrk
      rw[HXX.out]at hset
      rw[hset]at h6
      have HLN:Hid ((stepL x r id (k+1)).length=xl):=by show _=_;rw[←hset,List.length_set];exact HXN.out
      have HCS:=hD hcs
      have HC5:=hD (And.intro h5 h6)
      have HCP:Hid (xl≤cap∧cap≤maxLen):=⟨by rw[←HXN.out];exact HC.out.1,HC.out.2.1⟩
      clear hcs h5 h6 hset hrk
      go_upto_region 11 with (fail)
      refine rgQ [0,1,2,3] [4] EX62 rfl fun hw=>?_
      refine qw 2 hw ?_
      refine qv rfl (fun u hu=>load_run_op u (box_load hu (mT mH) HD.out.1) rfl) hw ?_
      refine qv (v:= .pointer (some ⟨g,0+(k+1)*32,none⟩)) rfl (fun u hu=>idxSl0_op underlying35 aggIdT.size HKX.out u rfl rfl) hw ?_
      refine wpG_nil<|(hOp_putAt rfl (g) (0+(k+1)*32) (.agg (arrB 32 id)) rfl rfl HGG.out.1 26 (cur) (cs) mH HCS.out.1 HCS.out.2.1 HCS.out.2.2.1 HCS.out.2.2.2 [(g,oc (cs) 26),(w.heap.size,oc (arrB 32 id) 26)] (mA ⟨.inl rfl,mA ⟨.inr ⟨(mT mH),HGG.out.2⟩,fun _ h=>by cases h⟩⟩) ?_)
      refine fun _=>enL fun u104 EX103=>?_
      have HNX:Hid (NInv w id (stepL x r id (k+1)) (.slice (some ⟨g,0,none⟩) xl cap) u104):=by
       refine⟨[(g,oc cs 26)], .inl ⟨g,cap,cs,by rw[HLN.out],rfl,by rw[HLN.out];exact HCP.out.1,HCP.out.2,HC5.out.1,by rw[HLN.out];exact HC5.out.2⟩,fun y hy=>?_,EX103.out⟩
       cases mS.1 hy
       exact⟨HGG.out.1,fun z hz=>by cases mS.1 hz;exact HGG.out.2⟩
      go_wp2
      go_roundw
      case rel=>exact⟨k+1,HKL.out.1,by go_num,HNX⟩
      case measure=>simp[intOf];have:=HKL.out.2;omega
    · obtain rfl:xl=k+1:=by have:=HXN.out;have:=HXL.out;omega
      have happ:=step_app (x:=x) (id:=id) (show r.length≤k by omega)
      rw[HXX.out]at happ
      have HAPP:=hD happ
      have HFX:Hid (FreshI X (.slice (some ⟨g,0,none⟩) (k+1) cap) [(g,oc cur 26)]):=by
       have h:=HFF.out
       rw[HXN.out]at h
       exact h
      clear happ hrk
      go_upto_region 10 with (fail)
      refine rgQ [0,1] [2,3,4] EX62 rfl fun hw=>?_
      refine qo rfl hw ?_
      refine qv rfl (fun u hu=>load_run_op u (box_load hu (mT mH) HD.out.1) rfl) hw ?_
      refine wpG_nil<|(hOp_fresh (R:=BuiltI id) (M0:=[(g,oc cur 26),(w.heap.size,oc (arrB 32 id) 26)]) rfl rfl (fun _ h=>h) (fun u hu=>FAt_buildI HD.out.1 rfl u) ?_)
      rintro _ _ ⟨gq,rfl,rfl⟩ hf he102;intro K' hK';go_big_quiet_op;go_big_quiet_on
      clear hf
      change lexH _ _ _ _ _ _ [(gq,oc (arrB 32 id) 26),(g,oc cur 26),(w.heap.size,oc (arrB 32 id) 26)]
      refine(hOp_own (gd:=none) (R:=GrownI w (X++[id]) [(w.heap.size,oc (arrB 32 id) 26)]) rfl rfl rfl rfl (fun u hu=>appI_op [(w.heap.size,oc (arrB 32 id) 26)] hu HXI.out.1 HD.out.1 HFX.out (mA ⟨⟨(mT mH),HGG.out.1⟩,fun _ h=>by cases h⟩) mH (mA ⟨⟨(mT (mT mH)),fun y hy=>by cases mS.1 hy;exact HGG.out.2⟩,fun _ h=>by cases h⟩) HXI.out.2 rfl rfl) ?_)
      rintro x9 M' ⟨N9,rfl,hF9,hn9⟩ he103;intro K' hK';go_big_quiet_op;go_big_quiet_on
      have HF9:=hD (And.intro hF9 hn9)
      clear hF9 hn9
      refine phE [4] [] he103 fun hw=>?_
      refine qo rfl hw ?_
      refine enP fun u106 EX105=>?_
      have HNX:Hid (NInv w id (stepL x r id (k+1)) x9 u106):=⟨N9,by rw[←HAPP.out];exact HF9.out.1,HF9.out.2,EX105.out⟩
      go_wp2
      go_roundw
      case rel=>exact⟨k+1,HKL.out.1,by go_num,HNX⟩
      case measure=>simp[intOf];have:=HKL.out.2;omega
  · obtain rfl:k=lvN lev:=by omega
    have HO:Hid (OwnI wr w.heap.size (.slice (some ⟨g,0,none⟩) X.length cap) (stepL x r id (lvN lev))∧Below w.heap.size w wr):=by
      rw[hX]
      exact⟨hF.own HXI.out.1 (fun y hy=>by cases mS.1 hy;exact⟨HGG.out.1,EnvX.box EK.out _ _ mH⟩),EnvX.bel EK.out⟩
    have HLE:Hid (decide (((lvN lev+1:Nat):Int)≤min lev 31)=false):=decide_eq_false (by unfold lvN;omega)
    have HXX:=hD hX
    have HCX:=hD hc
    clear hF hc hXl hX
    generalize X.length=xl at *
    go_upto_region 7 with (fail)
    refine rgQ [0,1,2,3] [] EK rfl fun hw=>?_
    refine qw 2 hw ?_
    refine qv (v:= .int .i64 (min lev 31)) rfl (fun u hu=>minZ_op u rfl rfl) hw ?_
    refine qv rfl (fun u hu=>leZ_op u HLE.out rfl rfl) hw ?_
    refine enP fun u163 EX162=>?_
    have HO2:Hid (OwnI u163 w.heap.size (.slice (some ⟨g,0,none⟩) xl cap) (stepL x r id (lvN lev))∧Below w.heap.size w u163):=by
      refine⟨?_,EnvX.bel EX162.out⟩
      rw[HXX.out]
      exact HFX.out.own HXI.out.1 (fun y hy=>by cases mS.1 hy;exact⟨HGG.out.1,EnvX.box EX162.out _ _ mH⟩)
    go_wp2
    go_ret
    exact⟨⟨_,rfl,HO2.out.1⟩,HO2.out.2⟩
theorem link_next(l:List (List Int))(id:List Int)(lev:Int)(A:Option Addr)(n c:Nat)(w:World)(hl:l.length=n)(hn:n≤1000000)(hlev:I64 lev)(hI:isIds l)(hid:isId id)(hA:IdsIn w w.heap.size A l):
   Calls Tryz.prog 124 #[.slice A n c,idv id, .int .i64 lev] w fun e w'=>(∃v,e= .returned v∧OwnI w' w.heap.size v (nextT l id lev))∧Below w.heap.size w w':=by
 by_cases k1:32<n
 · exact link_next_many l id lev A n c w hl hn hlev hI hid hA k1
 · match l,hl,hI,hA with
   |[],hl,_,_=>
    subst hl
    exact link_next_none id lev A c w hid
   |x::r,hl,hI,hA=>exact link_next_some x r (x::r) rfl id lev A n c w hl hn hlev hI hid hA (by omega)
theorem mtext_any(t:Tot)(w:World)(h:okT t):
  Calls Tryz.prog 166 #[totV t] w fun e w'=>(∃v,e= .returned v∧OwnB w' w.heap.size v (partT t))∧Below w.heap.size w w':=by
 have HL:Hid (len32 t):=h.len
 have HU:Hid (u64N t.n<18446744073709551616∧IntKind.u64.wrap t.n=((u64N t.n:Nat):Int)):=by
  unfold u64N
  rw[IntKind.wrap_u64]
  exact⟨by omega,by omega⟩
 have HR:Hid (∀x∈t.h,0≤x∧x≤255):=h.1.2
 have HR2:Hid (∀x∈listF (bytesOf t.w),0≤x∧x≤255):=fun x hx=>partT_byte h x (mR (mL hx))
 have E1:Hid (EnvX w (w.alloc (.cells (totA t) 61)) [(w.heap.size,oc (totA t) 61)]):=(EnvX.start w).new _
 have HBY:Hid (Rt w 111 #[.agg (wcs t.w)] (.agg (arrB 32 (listF (bytesOf t.w))))):=fun u _=>bytes_any t.w u
 have HPT:Hid (∀u,EnvX w u []→Calls Tryz.prog 113 #[.int .u64 ((u64N t.n:Nat):Int), .int .i64 4] u fun e w'=>(∃v,e= .returned v∧OwnB w' u.heap.size v (putL (u64N t.n) 4))∧Below u.heap.size u w'):=fun u _=>put_any (u64N t.n) 4 u HU.out.1 (by omega)
 have HCC:Hid (∀u g,EnvX w u []→Parts u u.heap.size (some ⟨g,0,none⟩) [t.h,listF (bytesOf t.w),putL (u64N t.n) 4]→Calls Tryz.prog 112 #[.slice (some ⟨g,0,none⟩) 3 3] u fun e w'=>(∃v,e= .returned v∧w'.ownsRow u.heap.size 5 1 v 68 ((partT t).map u8v))∧Below u.heap.size u w'):=fun u g _ hP=>by
  have hf:([t.h,listF (bytesOf t.w),putL (u64N t.n) 4]:List (List Int)).flatten=partT t:=by simp[partT]
  have hl:=partT_len h.len
  have k:=concat_any (some ⟨g,0,none⟩) 3 3 _ u rfl hP (by omega) (by rw[hf,hl];omega) (by rw[hf,hl];omega)
  rw[hf]at k
  unfold OwnB at k
  rwa[hl]at k
 have HZ:Hid ((arrB 32 (listF (bytesOf t.w))).size=32):=arrB_size _ _ (by rw[listF_len];omega)
 clear h
 unfold totV
 go_enter func166,ntmps166
 go_upto_region 1 with (fail)
 generalize w.alloc (.cells (totA t) 61)=W at *
 refine rgQ [0,1,2] [3,4] E1 rfl fun hw=>?_
 refine qo rfl hw ?_
 refine ql rfl mH HL.out hw ?_
 refine qc rfl func111 (fun u hu=>HBY.out u (nl hu)) hw ?_
 refine wpG_nil<|qn rfl (new_id _) fun g3 HG3 he2=>?_
 change lexH _ _ _ _ _ _ [(g3,oc (arrB 32 []) 26),(w.heap.size,oc (totA t) 61)]
 refine(sh rfl HG3 (info26 _ HZ.out) ((arrB_size _ _ (by simp)).trans HZ.out.symm) (arrB_one _ _) ?_)
 refine fun _=>enL fun u5 EX4=>?_
 go_upto_region 2 with (fail)
 refine rgK [0,1,2,3,4,5] 4 EX4 rfl fun hw=>?_
 refine qo rfl hw ?_
 refine qv (v:= .slice (some ⟨w.heap.size,0,none⟩) 32 32) rfl (fun u hu=>sliceArr_op u rfl) hw ?_
 refine qv (v:= .slice (some ⟨g3,0,none⟩) 32 32) rfl (fun u hu=>sliceArr_op u rfl) hw ?_
 refine qo rfl hw ?_
 refine ql rfl (mT mH) HL.out hw ?_
 refine qv (v:= .int .u64 ((u64N t.n:Nat):Int)) rfl (fun u hu=>conv_u64_op u HU.out.2 rfl) hw ?_
 refine wpG_nil<|aO 6 (qr (R:=FreshR 5 1 4 ((putL (u64N t.n) 4).map u8v)) rfl func113 (fun u hu=>by have h:=callsR_fresh (HPT.out u (nl hu));rw[putL_len]at h;exact h) ?_)
 rintro x N hF hf he7
 obtain⟨gp,capp,curp,rfl,rfl,hcp⟩|⟨_,_,h0,_⟩:=hF
 case inr=>cases h0
 have HCP:=hD hcp
 clear hcp
 clear hf
 change anyH _ _ _ _ _ _ _ _ [(gp,oc curp 5),(g3,oc (arrB 32 (listF (bytesOf t.w))) 26),(w.heap.size,oc (totA t) 61)]
 refine aO 7 (hOp_fresh (R:=fun v N=> ∃g,v= .slice (some ⟨g,0,none⟩) 3 3∧N=[(g,oc #[.slice (some ⟨w.heap.size,0,none⟩) 32 32, .slice (some ⟨g3,0,none⟩) 32 32, .slice (some ⟨gp,0,none⟩) 4 capp] 100)]) (M0:=[(gp,oc curp 5),(g3,oc (arrB 32 (listF (bytesOf t.w))) 26),(w.heap.size,oc (totA t) 61)]) rfl rfl (fun _ h=>h) (fun u hu=>FAt_rows3 rfl rfl rfl u) ?_)
 rintro _ _ ⟨gr,rfl,rfl⟩ hf he8;intro K' hK';go_big_quiet_op;go_big_quiet_on
 clear hf
 change anyH _ _ _ _ _ _ _ _ [(gr,oc #[.slice (some ⟨w.heap.size,0,none⟩) 32 32, .slice (some ⟨g3,0,none⟩) 32 32, .slice (some ⟨gp,0,none⟩) 4 capp] 100),(gp,oc curp 5),(g3,oc (arrB 32 (listF (bytesOf t.w))) 26),(w.heap.size,oc (totA t) 61)]
 refine aO 8 (qr (R:=FreshR 5 1 68 ((partT t).map u8v)) rfl func112 (fun u hu=>callsR_fresh (HCC.out u gr (nl hu) (parts_three (EnvX.lt hu mH) (by rw[show t.h.length=32 from HL.out];have h:=box_cell (k:=0) hu mH rfl;exact h) (bytes_src (EnvX.lt hu (mT (mT (mT mH)))) (src_box hu (mT (mT (mT mH))) (t_src HL.out))) HR.out (by rw[listF_len];have h:=box_cell (k:=1) hu mH rfl;exact h) (bytes_src (EnvX.lt hu (mT (mT mH))) (src_box hu (mT (mT mH)) (b_src t.w))) HR2.out (by rw[putL_len];have h:=box_cell (k:=2) hu mH rfl;exact h) (boxR_bytes hu (mT mH) (putL_len _ _) HCP.out) (putL_byte _ 4)))) ?_)
 rintro x N hF hf he9
 obtain⟨gc,capc,curc,rfl,rfl,hcc⟩|⟨_,_,h0,_⟩:=hF
 case inr=>cases h0
 have HCC2:=hD hcc
 have HGC:=hD (hf _ (mS.2 rfl))
 clear hcc
 clear hf
 refine phF [9] 0 rfl he9 fun hw=>?_
 refine qo rfl hw ?_
 refine eH fun u12 EX11=>?_
 go_wp2
 go_ret
 refine⟨⟨_,rfl,?_⟩,EnvX.bel EX11.out⟩
 have hl:(partT t).length=68:=partT_len HL.out
 unfold OwnB
 rw[hl]
 exact⟨by rw[lM,hl], .inr ⟨gc,capc,curc,rfl,HGC.out.1,EnvX.box EX11.out _ _ mH,HCC2.out⟩⟩
theorem mjoin_any(a b:Tot)(w:World)(ha:okT a)(hb:okT b)(ht:Tables w):
   Rz 109 #[totV a,totV b] w (totV (joinT a b)):=by
 unfold Rz
 have HA:Hid (len32 a):=ha.len
 have HB:Hid (len32 b):=hb.len
 have HBA:=hD (partT_byte ha)
 have HBB:=hD (partT_byte hb)
 have HJ:Hid (okT (joinT a b)):=join_ok
 have HADD:Hid (Rt w 165 #[.agg (wcs a.w), .agg (wcs b.w)] (.tuple #[.agg (wcs ((a.w+b.w) % Big)), .bool (decide (a.w+b.w<Big))])):=fun u _=>add_any a.w b.w u (by have:=ha.2.1;exact this) (by have:=hb.2.1;exact this)
 have HHA:Hid (∀u,EnvX w u []→Calls Tryz.prog 166 #[totV a] u fun e w'=>(∃v,e= .returned v∧w'.ownsRow u.heap.size 5 1 v 68 ((partT a).map u8v))∧Below u.heap.size u w'):=fun u _=>by have h:=mtext_any a u ha;unfold OwnB at h;rwa[partT_len ha.len]at h
 have HHB:Hid (∀u,EnvX w u []→Calls Tryz.prog 166 #[totV b] u fun e w'=>(∃v,e= .returned v∧w'.ownsRow u.heap.size 5 1 v 68 ((partT b).map u8v))∧Below u.heap.size u w'):=fun u _=>by have h:=mtext_any b u hb;unfold OwnB at h;rwa[partT_len hb.len]at h
 have HOF:Hid (∀u g,EnvX w u []→Parts u u.heap.size (some ⟨g,0,none⟩) [[3],partT a,partT b]→Calls Tryz.prog 65 #[.slice (some ⟨g,0,none⟩) 3 3] u fun e w'=>e= .returned (idv (joinT a b).h)∧Below u.heap.size u w'):=fun u g hE hP=>by
   have h:=shaof_any (some ⟨g,0,none⟩) 3 3 [[3],partT a,partT b] u rfl hP (by omega) (by simp[partT_len ha.len,partT_len hb.len]) (ht.below hE.bel)
   have e:([[3],partT a,partT b]:List (List Int)).flatten=3::(partT a++partT b):=by simp
   rw[e]at h
   exact h
 have HLE:Hid (w.heap.size≤w.heap.size+1+1):=by show _≤_;omega
 have E1:Hid (EnvX w (((w.alloc (.cells (totA a) 61)).alloc (.cells (totA b) 61)).alloc (.cells (totA zTot) 61)) [(w.heap.size+1+1,oc (totA zTot) 61),(w.heap.size+1,oc (totA b) 61),(w.heap.size,oc (totA a) 61)]):=EnvX.three _ _ _
 clear ha hb ht
 unfold totV
 go_enter func109,ntmps109
 go_upto_region 1 with (fail)
 rw[zero_totA]
 generalize ((w.alloc (.cells (totA a) 61)).alloc (.cells (totA b) 61)).alloc (.cells (totA zTot) 61)=W at *
 refine rgQ [0,1,2,3,4,5,6,7] [8,9,10] E1 rfl fun hw=>?_
 refine qo rfl hw ?_
 refine ql rfl (mT (mT mH)) HA.out hw ?_
 refine qo rfl hw ?_
 refine ql rfl (mT mH) HB.out hw ?_
 refine qc rfl func165 (fun u hu=>HADD.out u (nl hu)) hw ?_
 refine qw 3 hw ?_
 refine wpG_nil<|qn rfl (new_wd _) fun g5 HG5 he2=>?_
 change lexH _ _ _ _ _ _ [(g5,oc (wcs 0) 32),(w.heap.size+1+1,oc (totA zTot) 61),(w.heap.size+1,oc (totA b) 61),(w.heap.size,oc (totA a) 61)]
 refine(sh rfl HG5 (wc_info _) ((wc_size _).trans (wc_size _).symm) (wc_one _) ?_)
 intro he3
 refine phE [10] [] he3 fun hw=>?_
 refine qo rfl hw ?_
 refine enP fun u6 EX5=>?_
 go_upto_region 2 with (fail)
 refine rgK [1,3,7,8,9,10,11,12] 7 EX5 rfl fun hw=>?_
 refine ql rfl (mT (mT (mT mH))) HA.out hw ?_
 refine ql rfl (mT (mT mH)) HB.out hw ?_
 refine qv rfl (fun u hu=>load_any_op u (box_wide hu mH) rfl) hw ?_
 refine qo rfl hw ?_
 refine ql rfl (mT (mT (mT mH))) HA.out hw ?_
 refine qo rfl hw ?_
 refine ql rfl (mT (mT mH)) HB.out hw ?_
 refine qv (v:= .int .i64 (IntKind.i64.wrap (a.n+b.n))) rfl (fun u hu=>addW_op u rfl rfl) hw ?_
 refine wpG_nil<|anyH_two (i:=0) (j:=2) (by kernel_rfl) ?_ ?_
 · skip
   refine(hOp_fresh (R:=fun v N=> ∃g,v= .slice (some ⟨g,0,none⟩) 1 1∧N=[(g,oc #[.int .u8 3] 5)]) (M0:=[(g5,oc (wcs ((a.w+b.w) % Big)) 32),(w.heap.size+1+1,oc (totA zTot) 61),(w.heap.size+1,oc (totA b) 61),(w.heap.size,oc (totA a) 61)]) rfl rfl (fun _ h=>h) (fun u hu=>FAt_byte1 3 u) ?_)
   rintro _ _ ⟨gt,rfl,rfl⟩ hf he8;intro K' hK';go_big_quiet_op;go_big_quiet_on
   clear hf
   change anyH _ _ _ _ _ _ _ _ [(gt,oc #[.int .u8 3] 5),(g5,oc (wcs ((a.w+b.w) % Big)) 32),(w.heap.size+1+1,oc (totA zTot) 61),(w.heap.size+1,oc (totA b) 61),(w.heap.size,oc (totA a) 61)]
   refine aO 2 (qr rfl func166 (fun u hu=>callsR_fresh (HHA.out u (nl hu))) ?_)
   rintro x N hF hf he9
   obtain⟨ga,capga,curga,rfl,rfl,hcga⟩|⟨_,_,h0,_⟩:=hF
   case inr=>cases h0
   have HCga:=hD hcga
   clear hcga
   clear hf
   change anyH _ _ _ _ _ _ _ _ [(ga,oc curga 5),(gt,oc #[.int .u8 3] 5),(g5,oc (wcs ((a.w+b.w) % Big)) 32),(w.heap.size+1+1,oc (totA zTot) 61),(w.heap.size+1,oc (totA b) 61),(w.heap.size,oc (totA a) 61)]
   refine aO 4 (qr rfl func166 (fun u hu=>callsR_fresh (HHB.out u (nl hu))) ?_)
   rintro x N hF hf he10
   obtain⟨gb,capgb,curgb,rfl,rfl,hcgb⟩|⟨_,_,h0,_⟩:=hF
   case inr=>cases h0
   have HCgb:=hD hcgb
   clear hcgb
   clear hf
   change anyH _ _ _ _ _ _ _ _ [(gb,oc curgb 5),(ga,oc curga 5),(gt,oc #[.int .u8 3] 5),(g5,oc (wcs ((a.w+b.w) % Big)) 32),(w.heap.size+1+1,oc (totA zTot) 61),(w.heap.size+1,oc (totA b) 61),(w.heap.size,oc (totA a) 61)]
   refine aO 5 (hOp_fresh (R:=fun v N=> ∃g,v= .slice (some ⟨g,0,none⟩) 3 3∧N=[(g,oc #[.slice (some ⟨gt,0,none⟩) 1 1, .slice (some ⟨ga,0,none⟩) 68 capga, .slice (some ⟨gb,0,none⟩) 68 capgb] 100)]) (M0:=[(gb,oc curgb 5),(ga,oc curga 5),(gt,oc #[.int .u8 3] 5),(g5,oc (wcs ((a.w+b.w) % Big)) 32),(w.heap.size+1+1,oc (totA zTot) 61),(w.heap.size+1,oc (totA b) 61),(w.heap.size,oc (totA a) 61)]) rfl rfl (fun _ h=>h) (fun u hu=>FAt_rows3 rfl rfl rfl u) ?_)
   rintro _ _ ⟨gr,rfl,rfl⟩ hf he11;intro K' hK';go_big_quiet_op;go_big_quiet_on
   clear hf
   refine phF [6,13] 1 rfl he11 fun hw=>?_
   refine qc rfl func65 (fun u hu=>HOF.out u gr (nl hu) (parts_three (EnvX.lt hu mH) (by have h:=box_cell (k:=0) hu mH rfl;exact h) (boxR_bytes (cap:=1) hu (mT (mT (mT mH))) rfl ⟨by decide,by decide,rfl,rfl⟩) (by intro x hx;cases mS.1 hx;omega) (by rw[partT_len HA.out];have h:=box_cell (k:=1) hu mH rfl;exact h) (boxR_bytes hu (mT (mT mH)) (partT_len HA.out) HCga.out) HBA.out (by rw[partT_len HB.out];have h:=box_cell (k:=2) hu mH rfl;exact h) (boxR_bytes hu (mT mH) (partT_len HB.out) HCgb.out) HBB.out)) hw ?_
   refine qv (v:= .agg (totA (joinT a b))) rfl (fun u hu=>buildA_op u (built_tot (h:=(joinT a b).h) HJ.out.len)) hw ?_
   refine wpG_nil<|aO 14 (so rfl HLE.out (mT (mT (mT (mT (mT mH))))) (infoTot _ (totA_size HJ.out.len)) ((by decide+kernel:(totA zTot).size=37).trans (totA_size HJ.out.len).symm) (totA_one _) ?_)
   intro he13
   refine eM fun u15 EX14=>?_
   have Q0:=hD (EnvX.box EX14.out _ _ mH)
   have HBEL:=hD EX14.out.bel
   clear EX14
   go_wp2_with ((with_reducible refine bodyPost_ret (v:= .agg (totA (joinT a b))) ?_ ?_ ?_);(exact results_cell_row (p:=4) (ty:=61) results109 _ _ (w.heap.size+1+1) 61 (totA (joinT a b)) (0,0) _ rfl Q0.out underlying61 rfl (infoTot _ (totA_size HJ.out.len)));(rfl))
   exact HBEL.out
 · skip
   refine qr rfl func166 (fun u hu=>callsR_fresh (HHA.out u (nl hu))) ?_
   rintro x N hF hf he16
   obtain⟨ga,capga,curga,rfl,rfl,hcga⟩|⟨_,_,h0,_⟩:=hF
   case inr=>cases h0
   have HCga:=hD hcga
   clear hcga
   clear hf
   change anyH _ _ _ _ _ _ _ _ [(ga,oc curga 5),(g5,oc (wcs ((a.w+b.w) % Big)) 32),(w.heap.size+1+1,oc (totA zTot) 61),(w.heap.size+1,oc (totA b) 61),(w.heap.size,oc (totA a) 61)]
   refine anyH_two (i:=0) (j:=4) (by kernel_rfl) ?_ ?_
   · skip
     refine(hOp_fresh (R:=fun v N=> ∃g,v= .slice (some ⟨g,0,none⟩) 1 1∧N=[(g,oc #[.int .u8 3] 5)]) (M0:=[(ga,oc curga 5),(g5,oc (wcs ((a.w+b.w) % Big)) 32),(w.heap.size+1+1,oc (totA zTot) 61),(w.heap.size+1,oc (totA b) 61),(w.heap.size,oc (totA a) 61)]) rfl rfl (fun _ h=>h) (fun u hu=>FAt_byte1 3 u) ?_)
     rintro _ _ ⟨gt,rfl,rfl⟩ hf he17;intro K' hK';go_big_quiet_op;go_big_quiet_on
     clear hf
     change anyH _ _ _ _ _ _ _ _ [(gt,oc #[.int .u8 3] 5),(ga,oc curga 5),(g5,oc (wcs ((a.w+b.w) % Big)) 32),(w.heap.size+1+1,oc (totA zTot) 61),(w.heap.size+1,oc (totA b) 61),(w.heap.size,oc (totA a) 61)]
     refine aO 4 (qr rfl func166 (fun u hu=>callsR_fresh (HHB.out u (nl hu))) ?_)
     rintro x N hF hf he18
     obtain⟨gb,capgb,curgb,rfl,rfl,hcgb⟩|⟨_,_,h0,_⟩:=hF
     case inr=>cases h0
     have HCgb:=hD hcgb
     clear hcgb
     clear hf
     change anyH _ _ _ _ _ _ _ _ [(gb,oc curgb 5),(gt,oc #[.int .u8 3] 5),(ga,oc curga 5),(g5,oc (wcs ((a.w+b.w) % Big)) 32),(w.heap.size+1+1,oc (totA zTot) 61),(w.heap.size+1,oc (totA b) 61),(w.heap.size,oc (totA a) 61)]
     refine aO 5 (hOp_fresh (R:=fun v N=> ∃g,v= .slice (some ⟨g,0,none⟩) 3 3∧N=[(g,oc #[.slice (some ⟨gt,0,none⟩) 1 1, .slice (some ⟨ga,0,none⟩) 68 capga, .slice (some ⟨gb,0,none⟩) 68 capgb] 100)]) (M0:=[(gb,oc curgb 5),(gt,oc #[.int .u8 3] 5),(ga,oc curga 5),(g5,oc (wcs ((a.w+b.w) % Big)) 32),(w.heap.size+1+1,oc (totA zTot) 61),(w.heap.size+1,oc (totA b) 61),(w.heap.size,oc (totA a) 61)]) rfl rfl (fun _ h=>h) (fun u hu=>FAt_rows3 rfl rfl rfl u) ?_)
     rintro _ _ ⟨gr,rfl,rfl⟩ hf he19;intro K' hK';go_big_quiet_op;go_big_quiet_on
     clear hf
     refine phF [6,13] 1 rfl he19 fun hw=>?_
     refine qc rfl func65 (fun u hu=>HOF.out u gr (nl hu) (parts_three (EnvX.lt hu mH) (by have h:=box_cell (k:=0) hu mH rfl;exact h) (boxR_bytes (cap:=1) hu (mT (mT mH)) rfl ⟨by decide,by decide,rfl,rfl⟩) (by intro x hx;cases mS.1 hx;omega) (by rw[partT_len HA.out];have h:=box_cell (k:=1) hu mH rfl;exact h) (boxR_bytes hu (mT (mT (mT mH))) (partT_len HA.out) HCga.out) HBA.out (by rw[partT_len HB.out];have h:=box_cell (k:=2) hu mH rfl;exact h) (boxR_bytes hu (mT mH) (partT_len HB.out) HCgb.out) HBB.out)) hw ?_
     refine qv (v:= .agg (totA (joinT a b))) rfl (fun u hu=>buildA_op u (built_tot (h:=(joinT a b).h) HJ.out.len)) hw ?_
     refine wpG_nil<|aO 14 (so rfl HLE.out (mT (mT (mT (mT (mT mH))))) (infoTot _ (totA_size HJ.out.len)) ((by decide+kernel:(totA zTot).size=37).trans (totA_size HJ.out.len).symm) (totA_one _) ?_)
     intro he21
     refine eM fun u23 EX22=>?_
     have Q0:=hD (EnvX.box EX22.out _ _ mH)
     have HBEL:=hD EX22.out.bel
     clear EX22
     go_wp2_with ((with_reducible refine bodyPost_ret (v:= .agg (totA (joinT a b))) ?_ ?_ ?_);(exact results_cell_row (p:=4) (ty:=61) results109 _ _ (w.heap.size+1+1) 61 (totA (joinT a b)) (0,0) _ rfl Q0.out underlying61 rfl (infoTot _ (totA_size HJ.out.len)));(rfl))
     exact HBEL.out
   · skip
     refine qr rfl func166 (fun u hu=>callsR_fresh (HHB.out u (nl hu))) ?_
     rintro x N hF hf he24
     obtain⟨gb,capgb,curgb,rfl,rfl,hcgb⟩|⟨_,_,h0,_⟩:=hF
     case inr=>cases h0
     have HCgb:=hD hcgb
     clear hcgb
     clear hf
     change anyH _ _ _ _ _ _ _ _ [(gb,oc curgb 5),(ga,oc curga 5),(g5,oc (wcs ((a.w+b.w) % Big)) 32),(w.heap.size+1+1,oc (totA zTot) 61),(w.heap.size+1,oc (totA b) 61),(w.heap.size,oc (totA a) 61)]
     refine aO 0 (hOp_fresh (R:=fun v N=> ∃g,v= .slice (some ⟨g,0,none⟩) 1 1∧N=[(g,oc #[.int .u8 3] 5)]) (M0:=[(gb,oc curgb 5),(ga,oc curga 5),(g5,oc (wcs ((a.w+b.w) % Big)) 32),(w.heap.size+1+1,oc (totA zTot) 61),(w.heap.size+1,oc (totA b) 61),(w.heap.size,oc (totA a) 61)]) rfl rfl (fun _ h=>h) (fun u hu=>FAt_byte1 3 u) ?_)
     rintro _ _ ⟨gt,rfl,rfl⟩ hf he25;intro K' hK';go_big_quiet_op;go_big_quiet_on
     clear hf
     change anyH _ _ _ _ _ _ _ _ [(gt,oc #[.int .u8 3] 5),(gb,oc curgb 5),(ga,oc curga 5),(g5,oc (wcs ((a.w+b.w) % Big)) 32),(w.heap.size+1+1,oc (totA zTot) 61),(w.heap.size+1,oc (totA b) 61),(w.heap.size,oc (totA a) 61)]
     refine aO 5 (hOp_fresh (R:=fun v N=> ∃g,v= .slice (some ⟨g,0,none⟩) 3 3∧N=[(g,oc #[.slice (some ⟨gt,0,none⟩) 1 1, .slice (some ⟨ga,0,none⟩) 68 capga, .slice (some ⟨gb,0,none⟩) 68 capgb] 100)]) (M0:=[(gt,oc #[.int .u8 3] 5),(gb,oc curgb 5),(ga,oc curga 5),(g5,oc (wcs ((a.w+b.w) % Big)) 32),(w.heap.size+1+1,oc (totA zTot) 61),(w.heap.size+1,oc (totA b) 61),(w.heap.size,oc (totA a) 61)]) rfl rfl (fun _ h=>h) (fun u hu=>FAt_rows3 rfl rfl rfl u) ?_)
     rintro _ _ ⟨gr,rfl,rfl⟩ hf he26;intro K' hK';go_big_quiet_op;go_big_quiet_on
     clear hf
     refine phF [6,13] 1 rfl he26 fun hw=>?_
     refine qc rfl func65 (fun u hu=>HOF.out u gr (nl hu) (parts_three (EnvX.lt hu mH) (by have h:=box_cell (k:=0) hu mH rfl;exact h) (boxR_bytes (cap:=1) hu (mT mH) rfl ⟨by decide,by decide,rfl,rfl⟩) (by intro x hx;cases mS.1 hx;omega) (by rw[partT_len HA.out];have h:=box_cell (k:=1) hu mH rfl;exact h) (boxR_bytes hu (mT (mT (mT mH))) (partT_len HA.out) HCga.out) HBA.out (by rw[partT_len HB.out];have h:=box_cell (k:=2) hu mH rfl;exact h) (boxR_bytes hu (mT (mT mH)) (partT_len HB.out) HCgb.out) HBB.out)) hw ?_
     refine qv (v:= .agg (totA (joinT a b))) rfl (fun u hu=>buildA_op u (built_tot (h:=(joinT a b).h) HJ.out.len)) hw ?_
     refine wpG_nil<|aO 14 (so rfl HLE.out (mT (mT (mT (mT (mT mH))))) (infoTot _ (totA_size HJ.out.len)) ((by decide+kernel:(totA zTot).size=37).trans (totA_size HJ.out.len).symm) (totA_one _) ?_)
     intro he28
     refine eM fun u30 EX29=>?_
     have Q0:=hD (EnvX.box EX29.out _ _ mH)
     have HBEL:=hD EX29.out.bel
     clear EX29
     go_wp2_with ((with_reducible refine bodyPost_ret (v:= .agg (totA (joinT a b))) ?_ ?_ ?_);(exact results_cell_row (p:=4) (ty:=61) results109 _ _ (w.heap.size+1+1) 61 (totA (joinT a b)) (0,0) _ rfl Q0.out underlying61 rfl (infoTot _ (totA_size HJ.out.len)));(rfl))
     exact HBEL.out
theorem mleaf_any(h:List Int)(n:Nat)(w:World)(hh:h.length=32∧ ∀b∈h,0≤b∧b≤255)(hn:n<Big):
  Rz 105 #[idv h, .agg (wcs n)] w (totV ⟨h,n,1⟩):=by
 unfold Rz
 have HH:=hD hh
 have HO:Hid (len32 ⟨h,n,1⟩):=hh.1
 have HLE:Hid (w.heap.size≤w.heap.size+1+1):=by show _≤_;omega
 have E1:Hid (EnvX w (((w.alloc (.cells (arrB 32 h) 26)).alloc (.cells (wcs n) 32)).alloc (.cells (totA zTot) 61)) [(w.heap.size+1+1,oc (totA zTot) 61),(w.heap.size+1,oc (wcs n) 32),(w.heap.size,oc (arrB 32 h) 26)]):=EnvX.three _ _ _
 clear hh hn
 unfold totV idv
 go_enter func105,ntmps105
 go_upto_region 1 with (fail)
 rw[zero_totA]
 generalize ((w.alloc (.cells (arrB 32 h) 26)).alloc (.cells (wcs n) 32)).alloc (.cells (totA zTot) 61)=W at *
 refine rgQ [0,1,2] [3] E1 rfl fun hw=>?_
 refine qv rfl (fun u hu=>load_run_op u (box_load hu (mT (mT mH)) HH.out.1) rfl) hw ?_
 refine qv rfl (fun u hu=>load_any_op u (box_wide hu (mT mH)) rfl) hw ?_
 refine qv (v:= .agg (totA ⟨h,n,1⟩)) rfl (fun u hu=>buildA_op u (built_tot HH.out.1)) hw ?_
 refine wpG_nil<|(so rfl HLE.out mH (infoTot _ (totA_size HO.out)) (zTot_size.trans (totA_size HO.out).symm) (totA_one _) ?_)
 refine fun _=>enL fun u4 EX3=>?_
 have Q0:=hD (EnvX.box EX3.out _ _ mH)
 have HBEL:=hD EX3.out.bel
 clear EX3
 go_wp2_with ((with_reducible refine bodyPost_ret (v:= .agg (totA ⟨h,n,1⟩)) ?_ ?_ ?_);(exact results_cell_row (p:=4) (ty:=61) results105 _ _ (w.heap.size+1+1) 61 (totA ⟨h,n,1⟩) (0,0) _ rfl Q0.out underlying61 rfl (infoTot _ (totA_size HO.out)));(rfl))
 exact HBEL.out
def jlT(d:Tot→Tot→Bool):Tot→List Tot→List Tot
  |x,[]=>[x]
  |x,y::r=>if d y x=true then jlT d (joinT y x) r else x::y::r
theorem jl_carry: ∀(r:List Tot)(x:Tot),jlT (fun a b=>decide (a.n=b.n)) x r=carryT x r
 |[],x=>rfl
 |y::r,x=>by
  unfold jlT carryT
  by_cases h:x.n=y.n
  · rw[if_pos (decide_eq_true h.symm),if_pos h,jl_carry r]
  · rw[if_neg (fun e=>h (of_decide_eq_true e).symm),if_neg h]
theorem jl_up: ∀(r:List Tot)(x:Tot),jlT (fun _ _=>true) x r=[upT x r]
 |[],x=>rfl
 |y::r,x=>by
  unfold jlT upT
  rw[if_pos rfl,jl_up r]
section
variable {a:Act}{dst:Option Tmp}{x:Operand}{ty:TypeId}{pos:String}{after:Array Edge}{gd:Option (Nat × Bool)}
theorem FAt_tots0(u:World):FAt Tryz.prog ⟨dst, .buildSlice 38 0 #[],ty,pos,after,gd⟩ a (fun v N=> ∃g,v= .slice (some ⟨g,0,none⟩) 0 0∧N=[(g,oc #[] 61)]) u:=by
 have h:(execOp a.eval ⟨dst, .buildSlice 38 0 #[],ty,pos,after,gd⟩).run Tryz.prog u= .ok (.value (.slice (some ⟨u.heap.size,0,none⟩) 0 0)) (u.alloc (.cells #[] 61)):=by
  unfold execOp
  go_simp
 unfold FAt
 rw[h]
 refine⟨(Below.refl _ _).alloc (Nat.le_refl _) _,_,⟨_,rfl,rfl⟩,fun y hy=>?_⟩
 cases mS.1 hy
 exact⟨Nat.le_refl _,heap_alloc_new u _⟩
theorem FAt_rows1{A0:Option Addr}{n0 c0:Nat}(hx:a.eval x= .slice A0 n0 c0)(u:World):
  FAt Tryz.prog ⟨dst, .buildSlice 139 1 #[(0,x)],ty,pos,after,gd⟩ a (fun v N=> ∃g,v= .slice (some ⟨g,0,none⟩) 1 1∧N=[(g,oc #[.slice A0 n0 c0] 100)]) u:=by
 have h:(execOp a.eval ⟨dst, .buildSlice 139 1 #[(0,x)],ty,pos,after,gd⟩).run Tryz.prog u= .ok (.value (.slice (some ⟨u.heap.size,0,none⟩) 1 1)) (u.alloc (.cells #[.slice A0 n0 c0] 100)):=by
  unfold execOp
  simp only[List.map_toArray,List.map_cons,List.map_nil,hx]
  go_simp
 unfold FAt
 rw[h]
 refine⟨(Below.refl _ _).alloc (Nat.le_refl _) _,_,⟨_,rfl,rfl⟩,fun y hy=>?_⟩
 cases mS.1 hy
 exact⟨Nat.le_refl _,heap_alloc_new u _⟩
end
def JLeft(w0:World)(M0:Boxes)(out:List Tot)(v:Value)(M':Boxes):Prop:= ∃N,M'=N++M0∧FreshR 61 37 out.length (out.map totC).flatten v N∧freshN w0 N M0
def JInv(d:Tot→Tot→Bool)(w0:World)(M0:Boxes)(out:List Tot)(B:Nat)(v:Value)(w':World):Prop:=
  ∃r x N,okTs (x::r)∧(jlT d x r).reverse=out∧r.length+1≤B∧FreshR 61 37 (r.length+1) (((x::r).reverse).map totC).flatten v N∧freshN w0 N M0∧EnvX w0 w' (N++M0)
theorem mclone_any(p:List Tot)(A:Option Addr)(n c:Nat)(w:World)(hl:p.length=n)(hn:n≤1000000)(hI:okTs p)(hA:TotsIn w w.heap.size A p):
  Calls Tryz.prog 64 #[.slice A n c] w fun e w'=>(∃v,e= .returned v∧w'.ownsRow w.heap.size 61 37 v n (p.map totC).flatten)∧Below w.heap.size w w':=by
 have HPL:Hid ((p.map totC).flatten.length=n*37):=by show _=_;rw[flatT_len hI,hl]
 have HNB:Hid (n≤1000000):=hn
 have E1:Hid (EnvX w w []):=EnvX.start w
 have q22: ∀(w:World)(a:Option Addr)(n c n' c':Nat),(binOp .eql 38 (.slice a n c) (.slice none n' c')).run Tryz.prog w= .ok (.bool a.isNone) w:=fun w a n c n' c'=>Lib.run_eql_slice_nil w _ _ a n c n' c' underlying38
 cases A with
 | none=>
  obtain rfl:p=[]:=by
   refine List.eq_nil_of_length_eq_zero (Nat.eq_zero_of_not_pos fun hp=>?_)
   obtain⟨ad,e,_⟩:=hA.loads hI (k:=0) hp
   cases e
  subst hl
  clear hI hA HPL
  go_enter func64,ntmps64
  go_wp2
  go_ret
  exact⟨⟨_,rfl,World.ownsRow_nil _ _ _ _⟩,Below.refl _ _⟩
 |some ad=>
  have HA:Hid (CellsIn w w.heap.size (some ad) (p.map totC).flatten):=hA
  clear hI hA hl
  go_enter func64,ntmps64
  go_upto_region 3 with (fail)
  refine wp_region_Hx (w0:=w) [0,1,2,3] [] rfl E1.out ?_
  refine(hOp_fresh (R:=fun v N=> ∃g,v= .slice (some ⟨g,0,none⟩) 0 0∧N=[(g,oc #[] 61)]) (M0:=[]) rfl rfl (fun _ h=>h) (fun u hu=>FAt_tots0 u) ?_)
  rintro _ _ ⟨g0,rfl,rfl⟩ hf he1;intro K' hK';go_big_quiet_op;go_big_quiet_on
  have HG0:=hD (hf _ (mS.2 rfl))
  clear hf
  refine phE [1] [2,3] he1 fun hw=>?_
  refine qo rfl hw ?_
  refine wpG_nil<|(hOp_own (gd:=none) (R:=GrownR w 61 37 (0+n) ([]++(p.map totC).flatten) []) rfl rfl rfl rfl (fun u hu=>appX_op elTot (n:=0) (m:=n) (xs:=[]) [] hu rfl HPL.out flatT_one (.inl ⟨g0,0,#[],rfl,rfl,Nat.le_refl _,Nat.zero_le _,rfl,rfl⟩) (mA ⟨⟨mH,HG0.out.1⟩,fun _ h=>by cases h⟩) (src_in HA.out (EnvX.bel hu)) (fun _ h=>by cases h) (by have:=HNB.out;omega) rfl rfl) ?_)
  rintro x1 M' ⟨N2,rfl,hF2,hn2⟩ he3;intro K' hK';go_big_quiet_op;go_big_quiet_on
  have HF2:=hD (And.intro hF2 hn2)
  clear hF2 hn2
  refine phE [3] [] he3 fun hw=>?_
  refine qo rfl hw ?_
  refine enP fun u6 EX5=>?_
  go_wp2
  go_ret
  refine⟨⟨_,rfl,?_⟩,EnvX.bel EX5.out⟩
  have h:=HF2.out.1
  rw[List.nil_append,Nat.zero_add]at h
  exact h.own HPL.out (fun y hy=>⟨(HF2.out.2 y hy).1,EnvX.box EX5.out _ _ (mL hy)⟩)
theorem alike_any(a b:Tot)(w:World)(ha:okT a)(hb:okT b):
  Rz 62 #[.agg (totA a), .agg (totA b)] w (.bool (decide (a.n=b.n))):=by
 unfold Rz
 have HA:Hid (len32 a):=ha.len
 have HB:Hid (len32 b):=hb.len
 have E1:Hid (EnvX w ((w.alloc (.cells (totA a) 61)).alloc (.cells (totA b) 61)) [(w.heap.size+1,oc (totA b) 61),(w.heap.size,oc (totA a) 61)]):=(EnvX.start w).two _ _
 clear ha hb
 go_enter func62,ntmps62
 go_upto_region 1 with (fail)
 generalize (w.alloc (.cells (totA a) 61)).alloc (.cells (totA b) 61)=W at *
 refine rgQ [0,1,2,3,4,5] [] E1 rfl fun hw=>?_
 refine qo rfl hw ?_
 refine ql rfl (mT mH) HA.out hw ?_
 refine qo rfl hw ?_
 refine ql rfl mH HB.out hw ?_
 refine qv rfl (fun u hu=>eqlI_op u rfl rfl rfl) hw ?_
 refine qo rfl hw ?_
 refine enP fun u3 EX2=>?_
 go_wp2
 go_ret
 exact⟨rfl,EnvX.bel EX2.out⟩
theorem always_any(a b:Tot)(w:World)(ha:okT a)(hb:okT b):
  Rz 66 #[.agg (totA a), .agg (totA b)] w (.bool true):=by
 unfold Rz
 have E1:Hid (EnvX w ((w.alloc (.cells (totA a) 61)).alloc (.cells (totA b) 61)) [(w.heap.size+1,oc (totA b) 61),(w.heap.size,oc (totA a) 61)]):=(EnvX.start w).two _ _
 clear ha hb
 go_enter func66,ntmps66
 go_upto_region 1 with (fail)
 generalize (w.alloc (.cells (totA a) 61)).alloc (.cells (totA b) 61)=W at *
 go_wp2
 go_ret
 exact⟨rfl,EnvX.bel E1.out⟩
def JjlA(w0:World)(M0:Boxes)(out:List Tot)(B:Nat)(a':Act)(w':World):Prop:=
  ∃(v u5_ u6_ u7_ u8_ u9_ u10_ u11_ u12_ u13_ u14_ u15_ u16_ u17_ u18_ u19_ u20_ u21_ u22_ u23_ u24_ u25_ u26_ u27_ u28_ u29_ u30_ u31_ u32_ u33_ u34_ u35_ u36_ u37_ u38_ u39_ u40_ u41_ u42_:Value),a'={tmps:=List.toArray (v:: .func (.func 62) #[] #[]::undef::undef:: .slice none 0 0::u5_::u6_::u7_::u8_::u9_::u10_::u11_::u12_::u13_::u14_::u15_::u16_::u17_::u18_::u19_::u20_::u21_::u22_::u23_::u24_::u25_::u26_::u27_::u28_::u29_::u30_::u31_::u32_::u33_::u34_::u35_::u36_::u37_::u38_::u39_::u40_::u41_::u42_::[]),defers:=[]}∧Hid (JInv (fun a b=>decide (a.n=b.n)) w0 M0 out B v w')
theorem jlA(w0:World)(M0:Boxes)(r:List Tot)(x:Tot)(v:Value)(N:Boxes)(w:World)(hok:okTs (x::r))(hB:r.length+1≤1000001)(hF:FreshR 61 37 (r.length+1) (((x::r).reverse).map totC).flatten v N)(hfr:freshN w0 N M0)(hE:EnvX w0 w (N++M0))(ht:Tables w0):
   Calls Tryz.prog 63 #[v, .func (.func 62) #[] #[]] w fun e w''=> ∃x' M',e= .returned x'∧EnvX w0 w'' M'∧JLeft w0 M0 ((jlT (fun a b=>decide (a.n=b.n)) x r).reverse) x' M':=by
 have HI:Hid (JInv (fun a b=>decide (a.n=b.n)) w0 M0 ((jlT (fun a b=>decide (a.n=b.n)) x r).reverse) 1000001 v w):=⟨r,x,N,hok,rfl,hB,hF,hfr,hE⟩
 have HT:=hD ht
 obtain⟨out,hout⟩: ∃out,(jlT (fun a b=>decide (a.n=b.n)) x r).reverse=out:=⟨_,rfl⟩
 rw[hout]at HI ⊢
 clear hok hB hF hfr hE ht hout
 go_enter func63,ntmps63
 go_wp2_with fail
 refine wp_scope_jumps2 0 (JjlA w0 M0 out 1000001) (fun a' _=>lenV (a'.tmps.getD 0 undef)) rfl ?_ ?_
 · clear HI
   rintro a' w' ⟨v,u5_,u6_,u7_,u8_,u9_,u10_,u11_,u12_,u13_,u14_,u15_,u16_,u17_,u18_,u19_,u20_,u21_,u22_,u23_,u24_,u25_,u26_,u27_,u28_,u29_,u30_,u31_,u32_,u33_,u34_,u35_,u36_,u37_,u38_,u39_,u40_,u41_,u42_,rfl,hinv⟩
   obtain⟨r,x,N,hok,hcar,hlen,hF,hfr,hE⟩:=hinv.out
   clear hinv
   obtain⟨g,cap,cur,rfl,rfl,hcur⟩|⟨_,_,h0,_⟩:=hF
   case inr=>cases h0
   have HGW:=hD (hfr _ (mS.2 rfl))
   have HCUR:=hD hcur
   have hcap:=hcur.2.1
   have hcap2:=hcur.1
   have EK:Hid (EnvX w0 w' ((g,oc cur 61)::M0)):=hE
   have HCAR:=hD hcar
   clear hcur hE hfr hcar
   unfold maxLen at hcap
   cases r with
   |nil=>
    have HOUT:Hid (out=[x]):=HCAR.out.symm
    have HOK1:=hD (hok x (List.mem_cons_self ..))
    have hl0:([]:List Tot).length+1=1:=rfl
    rw[hl0]at HCUR hcap2 ⊢
    have HG0:Hid (decide (((1:Nat):Int)<2)=true):=hD (by decide:decide (((1:Nat):Int)<2)=true)
    have H1B:Hid (1<9223372036854775808):=hD (by decide:1<9223372036854775808)
    clear hok hl0
    go_upto_region 1 with (fail)
    refine rgQ [0,1,2] [] EK rfl fun hw=>?_
    refine qo rfl hw ?_
    refine qv rfl (fun u hu=>len_op underlying38 H1B.out u rfl) hw ?_
    refine qo rfl hw ?_
    refine enP fun u103 EX102=>?_
    go_upto_region 2 with (fail)
    refine rgK [0,1,2,3,4,5,6,7,8,9,10,11,12,13,14,15,16] 0 EX102 rfl fun hw=>?_
    refine qo rfl hw ?_
    refine qv rfl (fun u hu=>lssI_op u HG0.out rfl rfl) hw ?_
    refine qw 15 hw ?_
    refine eH fun u106 EX105=>?_
    go_wp2_with fail
    simp only[Exit.jump]
    go_ret
    refine⟨_,_,rfl,EX105.out,[(g,oc cur 61)],rfl,?_,fun y hy=>by cases mS.1 hy;exact HGW.out⟩
    rw[HOUT.out]
    exact .inl ⟨g,cap,cur,rfl,rfl,HCUR.out⟩
   |cons y r=>
    obtain⟨k,hk⟩: ∃k,r.length=k:=⟨_,rfl⟩
    have hkl:(y::r).length+1=k+2:=by rw[List.length_cons,hk]
    rw[hkl]at HCUR hlen hcap2 ⊢
    obtain⟨q,hq⟩: ∃q,r.reverse=q:=⟨_,rfl⟩
    have hl2:(x::y::r).reverse=q++[y,x]:=by rw[List.reverse_cons,List.reverse_cons,hq,aA];rfl
    have hql:q.length=k:=by rw[←hq,List.length_reverse,hk]
    have hokl:okTs (q++[y,x]):=fun t ht=>hok t (by rw[←List.mem_reverse,hl2];exact ht)
    have hokq:okTs q:=fun t ht=>hokl t (mL ht)
    rw[hl2]at HCUR
    have HX:=hD (hok x (List.mem_cons_self ..))
    have HY:=hD (hok y (mT (List.mem_cons_self ..)))
    have HOKR:Hid (∀t∈r,okT t):=fun t ht=>hok t (mT (mT ht))
    have hll:(q++[y,x]).length=k+2:=by rw[lA,hql];rfl
    have hgx:(q++[y,x]).getD (k+1) noTot=x:=by
      rw[gD,List.getElem?_append_right (by omega),hql,show k+1- k=1 by omega]
      rfl
    have hgy:(q++[y,x]).getD k noTot=y:=by
      rw[gD,List.getElem?_append_right (by omega),hql,Nat.sub_self]
      rfl
    have HLD:Hid (∀u:World,Row u g 61 cur→(loadVar 61 ((⟨g,0,none⟩:Addr).add ((k+1)*37))).run Tryz.prog u= .ok (totV x) u∧(loadVar 61 ((⟨g,0,none⟩:Addr).add (k*37))).run Tryz.prog u= .ok (totV y) u):=fun u hu=>by
      have hT:=row_tots (cap:=cap) hu hokl hll HCUR.out.2.2.2
      obtain⟨a1,e1,h1⟩:=hT.loads hokl (k:=k+1) (by omega)
      obtain⟨a2,e2,h2⟩:=hT.loads hokl (k:=k) (by omega)
      cases e1
      cases e2
      have h1:=h1 u (EnvX.start u)
      have h2:=h2 u (EnvX.start u)
      rw[hgx]at h1
      rw[hgy]at h2
      exact⟨h1.1,h2.1⟩
    have HK:Hid (k+2<9223372036854775808):=by show _<_;omega
    have HS1:Hid (((k+2:Nat):Int) - 1=((k+1:Nat):Int)∧InI ((k+1:Nat):Int)):=⟨by omega,by unfold InI;omega⟩
    have HS2:Hid (((k+2:Nat):Int) - 2=(k:Int)∧InI (k:Int)):=⟨by omega,by unfold InI;omega⟩
    have HX1:Hid (k+1<k+2):=by show _<_;omega
    have HX2:Hid (k<k+2):=by show _<_;omega
    have HG2:Hid (decide (((k+2:Nat):Int)<2)=false):=decide_eq_false (by omega)
    have HKB:Hid (k≤1000000):=by show _≤_;omega
    have HKC:Hid (k≤cap):=by show _≤_;omega
    have HQL:Hid ((q.map totC).flatten.length=k*37):=by show _=_;rw[flatT_len hokq,hql]
    have HFK:Hid (FreshR 61 37 k (q.map totC).flatten (.slice (some ⟨g,0,none⟩) k cap) [(g,oc cur 61)]):=by
      refine .inl ⟨g,cap,cur,rfl,rfl,HKC.out,HCUR.out.2.1,HCUR.out.2.2.1,?_⟩
      have h:=congrArg (List.take (k*37)) HCUR.out.2.2.2
      rw[List.take_take,Nat.min_eq_left (by omega),List.map_append,List.flatten_append,List.take_left' HQL.out]at h
      exact h
    have HQQ:=hD hq
    have HLEN:=hD (And.intro hlen hk)
    have HQI:=hD (And.intro hokl (And.intro hql hll))
    clear hok hokl hkl hk hq hl2 hgx hgy hlen hql hll hcap2 hokq
    by_cases hxy:(fun a b=>decide (a.n=b.n)) y x=true
    · have HD:Hid (∀u,Calls Tryz.prog 62 #[.agg (totA y), .agg (totA x)] u fun e w'=>e= .returned (.bool true)∧Below u.heap.size u w'):=fun u=>by
       have h:=alike_any y x u HY.out HX.out
       rwa[show decide (y.n=x.n)=true from hxy]at h
      have HCT:Hid (jlT (fun a b=>decide (a.n=b.n)) x (y::r)=jlT (fun a b=>decide (a.n=b.n)) (joinT y x) r):=by show _=_;rw[jlT,if_pos hxy]
      have HJ:Hid (∀u,Below w0.heap.size w0 u→Calls Tryz.prog 109 #[.agg (totA y), .agg (totA x)] u fun e w'=>e= .returned (.agg (totA (joinT y x)))∧Below u.heap.size u w'):=fun u hb=>mjoin_any y x u HY.out HX.out (HT.out.below hb)
      clear hxy
      go_upto_region 1 with (fail)
      refine rgQ [0,1,2] [] EK rfl fun hw=>?_
      refine qo rfl hw ?_
      refine qv rfl (fun u hu=>len_op underlying38 HK.out u rfl) hw ?_
      refine qo rfl hw ?_
      refine enP fun u103 EX102=>?_
      go_upto_region 2 with (fail)
      refine rgH [0,1,2,3,4,5,6,7,8,9,10,11,12,13,14,15,16] 0 EX102 rfl (by kernel_rfl) (by kernel_rfl) ?_;intro hw104 hone
      refine qo rfl ⟨_,hw104⟩ ?_
      refine qv rfl (fun u hu=>lssI_op u HG2.out rfl rfl) ⟨_,hw104⟩ ?_
      iterate 4 refine qo rfl ⟨_,hw104⟩ ?_
      refine qv rfl (fun u hu=>sub_op u HS2.out.1 HS2.out.2 rfl rfl) ⟨_,hw104⟩ ?_
      refine qv rfl (fun u hu=>idxSl_op underlying38 aggTot.size HX2.out u rfl rfl) ⟨_,hw104⟩ ?_
      refine qv rfl (fun u hu=>load_any_op u (HLD.out u (EnvX.row hu mH)).2 rfl) ⟨_,hw104⟩ ?_
      iterate 2 refine qo rfl ⟨_,hw104⟩ ?_
      refine qv rfl (fun u hu=>sub_op u HS1.out.1 HS1.out.2 rfl rfl) ⟨_,hw104⟩ ?_
      refine qv rfl (fun u hu=>idxSl_op underlying38 aggTot.size HX1.out u rfl rfl) ⟨_,hw104⟩ ?_
      refine qv rfl (fun u hu=>load_any_op u (HLD.out u (EnvX.row hu mH)).1 rfl) ⟨_,hw104⟩ ?_
      (refine wpG_callV (f:=62) (args:= #[.agg (totA y), .agg (totA x)]) (caps:= #[]) (all:= #[.agg (totA y), .agg (totA x)]) (v:= .bool true) rfl rfl rfl rfl rfl func62 rfl rfl (fun u hu=>HD.out u) ?_ hw104;intro K hK;go_big_quiet_op;go_big_quiet_on)
      iterate 2 refine qo rfl ⟨_,hw104⟩ ?_
      clear hone hw104;refine eH fun u106 EX105=>?_
      go_upto_region 4 with (fail)
      refine rgK [0,1,2,3,4,5,6,7,8,9,10,11,12,13,14] 3 EX105 rfl fun hw=>?_
      refine qw 2 hw ?_
      refine qv rfl (fun u hu=>sub_op u HS2.out.1 HS2.out.2 rfl rfl) hw ?_
      refine qv (v:= .slice (some ⟨g,0,none⟩) k cap) rfl (fun u hu=>cutXh_op elTot u HKC.out rfl rfl) hw ?_
      refine qw 2 hw ?_
      refine qv rfl (fun u hu=>sub_op u HS2.out.1 HS2.out.2 rfl rfl) hw ?_
      refine qv rfl (fun u hu=>idxSl_op underlying38 aggTot.size HX2.out u rfl rfl) hw ?_
      refine qv rfl (fun u hu=>load_any_op u (HLD.out u (EnvX.row hu mH)).2 rfl) hw ?_
      refine qw 2 hw ?_
      refine qv rfl (fun u hu=>sub_op u HS1.out.1 HS1.out.2 rfl rfl) hw ?_
      refine qv rfl (fun u hu=>idxSl_op underlying38 aggTot.size HX1.out u rfl rfl) hw ?_
      refine qv rfl (fun u hu=>load_any_op u (HLD.out u (EnvX.row hu mH)).1 rfl) hw ?_
      refine qc rfl func109 (fun u hu=>HJ.out u (EnvX.bel hu)) hw ?_
      refine wpG_nil<|aO 15 (hOp_fresh (R:=BuiltR 61 (totC (joinT y x))) (M0:=((g,oc cur 61)::M0)) rfl rfl (fun _ h=>h) (fun u hu=>FAt_buildR elTot (totC_len join_ok.len) (totC_one _) rfl u) ?_)
      rintro _ _ ⟨gj,rfl,rfl⟩ hf he108;intro K' hK';go_big_quiet_op;go_big_quiet_on
      have HGJ:=hD (hf _ (mS.2 rfl))
      clear hf
      change anyH _ _ _ _ _ _ _ _ ((gj,oc (totC (joinT y x)).toArray 61)::((g,oc cur 61)::M0))
      refine aO 16 (hOp_own (gd:=none) (R:=GrownR w0 61 37 (k+1) ((q.map totC).flatten++totC (joinT y x)) M0) rfl rfl rfl rfl (fun u hu=>appX_op elTot (m:=1) M0 hu HQL.out (by rw[Nat.one_mul];exact totC_len join_ok.len) (totC_one _) HFK.out (mA ⟨⟨(mT mH),HGW.out.1⟩,fun _ h=>by cases h⟩) (src_box (k:=0) hu mH (by rw[List.drop_zero,List.take_length])) (fun z hz=>⟨mT (mT hz),fun y hy=>by cases mS.1 hy;exact HGW.out.2 z hz⟩) (by have:=HKB.out;omega) rfl rfl) ?_)
      rintro x9 M' ⟨N9,rfl,hF9,hn9⟩ he109;intro K' hK';go_big_quiet_op;go_big_quiet_on
      have HF9:=hD (And.intro hF9 hn9)
      clear hF9 hn9
      refine phF [17] 0 rfl he109 fun hw=>?_
      refine qo rfl hw ?_
      refine eH fun u112 EX111=>?_
      have HNX:Hid (JInv (fun a b=>decide (a.n=b.n)) w0 M0 out 1000001 x9 u112):=by
       refine⟨r,joinT y x,N9,?_,by rw[←HCT.out];exact HCAR.out,by have:=HLEN.out;omega,?_,HF9.out.2,EX111.out⟩
       · intro t ht
         rcases List.mem_cons.1 ht with rfl|h
         · exact join_ok
         · exact HOKR.out t h
       · have h:=HF9.out.1
         rw[List.reverse_cons,HQQ.out,List.map_append,List.flatten_append,List.map_singleton,List.flatten_singleton,HLEN.out.2]
         exact h
      have HLV:Hid (lenV x9=k+1):=by
       rcases HF9.out.1 with ⟨_,_,_,e,_⟩|⟨_,_,e,_⟩
       · show _=_;rw[e];rfl
       · cases e
      go_wp2_with fail
      go_step3
      refine⟨rfl,⟨x9,_,_,_,_,_,_,_,_,_,_,_,_,_,_,_,_,_,_,_,_,_,_,_,_,_,_,_,_,_,_,_,_,_,_,_,_,_,_,rfl,HNX⟩,?_⟩
      show lenV x9<k+2
      rw[HLV.out]
      omega
    · have hxy2:decide (y.n=x.n)=false:=by
       have h:(fun a b=>decide (a.n=b.n)) y x=decide (y.n=x.n):=rfl
       rw[←h]
       exact Bool.eq_false_iff.2 hxy
      have HD:Hid (∀u,Calls Tryz.prog 62 #[.agg (totA y), .agg (totA x)] u fun e w'=>e= .returned (.bool false)∧Below u.heap.size u w'):=fun u=>by
       have h:=alike_any y x u HY.out HX.out
       rwa[hxy2]at h
      have HOUT:Hid (out=q++[y,x]):=by
       show _=_
       rw[←HCAR.out,jlT,if_neg hxy,List.reverse_cons,List.reverse_cons,HQQ.out,aA]
       rfl
      clear hxy hxy2
      go_upto_region 1 with (fail)
      refine rgQ [0,1,2] [] EK rfl fun hw=>?_
      refine qo rfl hw ?_
      refine qv rfl (fun u hu=>len_op underlying38 HK.out u rfl) hw ?_
      refine qo rfl hw ?_
      refine enP fun u103 EX102=>?_
      go_upto_region 2 with (fail)
      refine rgH [0,1,2,3,4,5,6,7,8,9,10,11,12,13,14,15,16] 0 EX102 rfl (by kernel_rfl) (by kernel_rfl) ?_;intro hw104 hone
      refine qo rfl ⟨_,hw104⟩ ?_
      refine qv rfl (fun u hu=>lssI_op u HG2.out rfl rfl) ⟨_,hw104⟩ ?_
      iterate 4 refine qo rfl ⟨_,hw104⟩ ?_
      refine qv rfl (fun u hu=>sub_op u HS2.out.1 HS2.out.2 rfl rfl) ⟨_,hw104⟩ ?_
      refine qv rfl (fun u hu=>idxSl_op underlying38 aggTot.size HX2.out u rfl rfl) ⟨_,hw104⟩ ?_
      refine qv rfl (fun u hu=>load_any_op u (HLD.out u (EnvX.row hu mH)).2 rfl) ⟨_,hw104⟩ ?_
      iterate 2 refine qo rfl ⟨_,hw104⟩ ?_
      refine qv rfl (fun u hu=>sub_op u HS1.out.1 HS1.out.2 rfl rfl) ⟨_,hw104⟩ ?_
      refine qv rfl (fun u hu=>idxSl_op underlying38 aggTot.size HX1.out u rfl rfl) ⟨_,hw104⟩ ?_
      refine qv rfl (fun u hu=>load_any_op u (HLD.out u (EnvX.row hu mH)).1 rfl) ⟨_,hw104⟩ ?_
      (refine wpG_callV (f:=62) (args:= #[.agg (totA y), .agg (totA x)]) (caps:= #[]) (all:= #[.agg (totA y), .agg (totA x)]) (v:= .bool false) rfl rfl rfl rfl rfl func62 rfl rfl (fun u hu=>HD.out u) ?_ hw104;intro K hK;go_big_quiet_op;go_big_quiet_on)
      iterate 2 refine qo rfl ⟨_,hw104⟩ ?_
      clear hone hw104;refine eH fun u106 EX105=>?_
      go_wp2_with fail
      simp only[Exit.jump]
      go_ret
      refine⟨_,_,rfl,EX105.out,[(g,oc cur 61)],rfl,?_,fun y hy=>by cases mS.1 hy;exact HGW.out⟩
      rw[HOUT.out,HQI.out.2.2]
      exact .inl ⟨g,cap,cur,rfl,rfl,HCUR.out⟩
 · intro hrest
   go_upto_region 1 with (fail)
   refine wp_label ?_
   rename_i hK
   exact hK _ _ (hrest _ _ ⟨v,_,_,_,_,_,_,_,_,_,_,_,_,_,_,_,_,_,_,_,_,_,_,_,_,_,_,_,_,_,_,_,_,_,_,_,_,_,_,rfl,HI⟩)
def JjlR(w0:World)(M0:Boxes)(out:List Tot)(B:Nat)(a':Act)(w':World):Prop:=
  ∃(v u5_ u6_ u7_ u8_ u9_ u10_ u11_ u12_ u13_ u14_ u15_ u16_ u17_ u18_ u19_ u20_ u21_ u22_ u23_ u24_ u25_ u26_ u27_ u28_ u29_ u30_ u31_ u32_ u33_ u34_ u35_ u36_ u37_ u38_ u39_ u40_ u41_ u42_:Value),a'={tmps:=List.toArray (v:: .func (.func 66) #[] #[]::undef::undef:: .slice none 0 0::u5_::u6_::u7_::u8_::u9_::u10_::u11_::u12_::u13_::u14_::u15_::u16_::u17_::u18_::u19_::u20_::u21_::u22_::u23_::u24_::u25_::u26_::u27_::u28_::u29_::u30_::u31_::u32_::u33_::u34_::u35_::u36_::u37_::u38_::u39_::u40_::u41_::u42_::[]),defers:=[]}∧Hid (JInv (fun _ _=>true) w0 M0 out B v w')
theorem jlR(w0:World)(M0:Boxes)(r:List Tot)(x:Tot)(v:Value)(N:Boxes)(w:World)(hok:okTs (x::r))(hB:r.length+1≤1000001)(hF:FreshR 61 37 (r.length+1) (((x::r).reverse).map totC).flatten v N)(hfr:freshN w0 N M0)(hE:EnvX w0 w (N++M0))(ht:Tables w0):
   Calls Tryz.prog 63 #[v, .func (.func 66) #[] #[]] w fun e w''=> ∃x' M',e= .returned x'∧EnvX w0 w'' M'∧JLeft w0 M0 ((jlT (fun _ _=>true) x r).reverse) x' M':=by
 have HI:Hid (JInv (fun _ _=>true) w0 M0 ((jlT (fun _ _=>true) x r).reverse) 1000001 v w):=⟨r,x,N,hok,rfl,hB,hF,hfr,hE⟩
 have HT:=hD ht
 obtain⟨out,hout⟩: ∃out,(jlT (fun _ _=>true) x r).reverse=out:=⟨_,rfl⟩
 rw[hout]at HI ⊢
 clear hok hB hF hfr hE ht hout
 go_enter func63,ntmps63
 go_wp2_with fail
 refine wp_scope_jumps2 0 (JjlR w0 M0 out 1000001) (fun a' _=>lenV (a'.tmps.getD 0 undef)) rfl ?_ ?_
 · clear HI
   rintro a' w' ⟨v,u5_,u6_,u7_,u8_,u9_,u10_,u11_,u12_,u13_,u14_,u15_,u16_,u17_,u18_,u19_,u20_,u21_,u22_,u23_,u24_,u25_,u26_,u27_,u28_,u29_,u30_,u31_,u32_,u33_,u34_,u35_,u36_,u37_,u38_,u39_,u40_,u41_,u42_,rfl,hinv⟩
   obtain⟨r,x,N,hok,hcar,hlen,hF,hfr,hE⟩:=hinv.out
   clear hinv
   obtain⟨g,cap,cur,rfl,rfl,hcur⟩|⟨_,_,h0,_⟩:=hF
   case inr=>cases h0
   have HGW:=hD (hfr _ (mS.2 rfl))
   have HCUR:=hD hcur
   have hcap:=hcur.2.1
   have hcap2:=hcur.1
   have EK:Hid (EnvX w0 w' ((g,oc cur 61)::M0)):=hE
   have HCAR:=hD hcar
   clear hcur hE hfr hcar
   unfold maxLen at hcap
   cases r with
   |nil=>
    have HOUT:Hid (out=[x]):=HCAR.out.symm
    have HOK1:=hD (hok x (List.mem_cons_self ..))
    have hl0:([]:List Tot).length+1=1:=rfl
    rw[hl0]at HCUR hcap2 ⊢
    have HG0:Hid (decide (((1:Nat):Int)<2)=true):=hD (by decide:decide (((1:Nat):Int)<2)=true)
    have H1B:Hid (1<9223372036854775808):=hD (by decide:1<9223372036854775808)
    clear hok hl0
    go_upto_region 1 with (fail)
    refine rgQ [0,1,2] [] EK rfl fun hw=>?_
    refine qo rfl hw ?_
    refine qv rfl (fun u hu=>len_op underlying38 H1B.out u rfl) hw ?_
    refine qo rfl hw ?_
    refine enP fun u103 EX102=>?_
    go_upto_region 2 with (fail)
    refine rgK [0,1,2,3,4,5,6,7,8,9,10,11,12,13,14,15,16] 0 EX102 rfl fun hw=>?_
    refine qo rfl hw ?_
    refine qv rfl (fun u hu=>lssI_op u HG0.out rfl rfl) hw ?_
    refine qw 15 hw ?_
    refine eH fun u106 EX105=>?_
    go_wp2_with fail
    simp only[Exit.jump]
    go_ret
    refine⟨_,_,rfl,EX105.out,[(g,oc cur 61)],rfl,?_,fun y hy=>by cases mS.1 hy;exact HGW.out⟩
    rw[HOUT.out]
    exact .inl ⟨g,cap,cur,rfl,rfl,HCUR.out⟩
   |cons y r=>
    obtain⟨k,hk⟩: ∃k,r.length=k:=⟨_,rfl⟩
    have hkl:(y::r).length+1=k+2:=by rw[List.length_cons,hk]
    rw[hkl]at HCUR hlen hcap2 ⊢
    obtain⟨q,hq⟩: ∃q,r.reverse=q:=⟨_,rfl⟩
    have hl2:(x::y::r).reverse=q++[y,x]:=by rw[List.reverse_cons,List.reverse_cons,hq,aA];rfl
    have hql:q.length=k:=by rw[←hq,List.length_reverse,hk]
    have hokl:okTs (q++[y,x]):=fun t ht=>hok t (by rw[←List.mem_reverse,hl2];exact ht)
    have hokq:okTs q:=fun t ht=>hokl t (mL ht)
    rw[hl2]at HCUR
    have HX:=hD (hok x (List.mem_cons_self ..))
    have HY:=hD (hok y (mT (List.mem_cons_self ..)))
    have HOKR:Hid (∀t∈r,okT t):=fun t ht=>hok t (mT (mT ht))
    have hll:(q++[y,x]).length=k+2:=by rw[lA,hql];rfl
    have hgx:(q++[y,x]).getD (k+1) noTot=x:=by
      rw[gD,List.getElem?_append_right (by omega),hql,show k+1- k=1 by omega]
      rfl
    have hgy:(q++[y,x]).getD k noTot=y:=by
      rw[gD,List.getElem?_append_right (by omega),hql,Nat.sub_self]
      rfl
    have HLD:Hid (∀u:World,Row u g 61 cur→(loadVar 61 ((⟨g,0,none⟩:Addr).add ((k+1)*37))).run Tryz.prog u= .ok (totV x) u∧(loadVar 61 ((⟨g,0,none⟩:Addr).add (k*37))).run Tryz.prog u= .ok (totV y) u):=fun u hu=>by
      have hT:=row_tots (cap:=cap) hu hokl hll HCUR.out.2.2.2
      obtain⟨a1,e1,h1⟩:=hT.loads hokl (k:=k+1) (by omega)
      obtain⟨a2,e2,h2⟩:=hT.loads hokl (k:=k) (by omega)
      cases e1
      cases e2
      have h1:=h1 u (EnvX.start u)
      have h2:=h2 u (EnvX.start u)
      rw[hgx]at h1
      rw[hgy]at h2
      exact⟨h1.1,h2.1⟩
    have HK:Hid (k+2<9223372036854775808):=by show _<_;omega
    have HS1:Hid (((k+2:Nat):Int) - 1=((k+1:Nat):Int)∧InI ((k+1:Nat):Int)):=⟨by omega,by unfold InI;omega⟩
    have HS2:Hid (((k+2:Nat):Int) - 2=(k:Int)∧InI (k:Int)):=⟨by omega,by unfold InI;omega⟩
    have HX1:Hid (k+1<k+2):=by show _<_;omega
    have HX2:Hid (k<k+2):=by show _<_;omega
    have HG2:Hid (decide (((k+2:Nat):Int)<2)=false):=decide_eq_false (by omega)
    have HKB:Hid (k≤1000000):=by show _≤_;omega
    have HKC:Hid (k≤cap):=by show _≤_;omega
    have HQL:Hid ((q.map totC).flatten.length=k*37):=by show _=_;rw[flatT_len hokq,hql]
    have HFK:Hid (FreshR 61 37 k (q.map totC).flatten (.slice (some ⟨g,0,none⟩) k cap) [(g,oc cur 61)]):=by
      refine .inl ⟨g,cap,cur,rfl,rfl,HKC.out,HCUR.out.2.1,HCUR.out.2.2.1,?_⟩
      have h:=congrArg (List.take (k*37)) HCUR.out.2.2.2
      rw[List.take_take,Nat.min_eq_left (by omega),List.map_append,List.flatten_append,List.take_left' HQL.out]at h
      exact h
    have HQQ:=hD hq
    have HLEN:=hD (And.intro hlen hk)
    have HQI:=hD (And.intro hokl (And.intro hql hll))
    clear hok hokl hkl hk hq hl2 hgx hgy hlen hql hll hcap2 hokq
    by_cases hxy:(fun _ _=>true) y x=true
    · have HD:Hid (∀u,Calls Tryz.prog 66 #[.agg (totA y), .agg (totA x)] u fun e w'=>e= .returned (.bool true)∧Below u.heap.size u w'):=fun u=>by
       have h:=always_any y x u HY.out HX.out
       rwa[show true=true from hxy]at h
      have HCT:Hid (jlT (fun _ _=>true) x (y::r)=jlT (fun _ _=>true) (joinT y x) r):=by show _=_;rw[jlT,if_pos hxy]
      have HJ:Hid (∀u,Below w0.heap.size w0 u→Calls Tryz.prog 109 #[.agg (totA y), .agg (totA x)] u fun e w'=>e= .returned (.agg (totA (joinT y x)))∧Below u.heap.size u w'):=fun u hb=>mjoin_any y x u HY.out HX.out (HT.out.below hb)
      clear hxy
      go_upto_region 1 with (fail)
      refine rgQ [0,1,2] [] EK rfl fun hw=>?_
      refine qo rfl hw ?_
      refine qv rfl (fun u hu=>len_op underlying38 HK.out u rfl) hw ?_
      refine qo rfl hw ?_
      refine enP fun u103 EX102=>?_
      go_upto_region 2 with (fail)
      refine rgH [0,1,2,3,4,5,6,7,8,9,10,11,12,13,14,15,16] 0 EX102 rfl (by kernel_rfl) (by kernel_rfl) ?_;intro hw104 hone
      refine qo rfl ⟨_,hw104⟩ ?_
      refine qv rfl (fun u hu=>lssI_op u HG2.out rfl rfl) ⟨_,hw104⟩ ?_
      iterate 4 refine qo rfl ⟨_,hw104⟩ ?_
      refine qv rfl (fun u hu=>sub_op u HS2.out.1 HS2.out.2 rfl rfl) ⟨_,hw104⟩ ?_
      refine qv rfl (fun u hu=>idxSl_op underlying38 aggTot.size HX2.out u rfl rfl) ⟨_,hw104⟩ ?_
      refine qv rfl (fun u hu=>load_any_op u (HLD.out u (EnvX.row hu mH)).2 rfl) ⟨_,hw104⟩ ?_
      iterate 2 refine qo rfl ⟨_,hw104⟩ ?_
      refine qv rfl (fun u hu=>sub_op u HS1.out.1 HS1.out.2 rfl rfl) ⟨_,hw104⟩ ?_
      refine qv rfl (fun u hu=>idxSl_op underlying38 aggTot.size HX1.out u rfl rfl) ⟨_,hw104⟩ ?_
      refine qv rfl (fun u hu=>load_any_op u (HLD.out u (EnvX.row hu mH)).1 rfl) ⟨_,hw104⟩ ?_
      (refine wpG_callV (f:=66) (args:= #[.agg (totA y), .agg (totA x)]) (caps:= #[]) (all:= #[.agg (totA y), .agg (totA x)]) (v:= .bool true) rfl rfl rfl rfl rfl func66 rfl rfl (fun u hu=>HD.out u) ?_ hw104;intro K hK;go_big_quiet_op;go_big_quiet_on)
      iterate 2 refine qo rfl ⟨_,hw104⟩ ?_
      clear hone hw104;refine eH fun u106 EX105=>?_
      go_upto_region 4 with (fail)
      refine rgK [0,1,2,3,4,5,6,7,8,9,10,11,12,13,14] 3 EX105 rfl fun hw=>?_
      refine qw 2 hw ?_
      refine qv rfl (fun u hu=>sub_op u HS2.out.1 HS2.out.2 rfl rfl) hw ?_
      refine qv (v:= .slice (some ⟨g,0,none⟩) k cap) rfl (fun u hu=>cutXh_op elTot u HKC.out rfl rfl) hw ?_
      refine qw 2 hw ?_
      refine qv rfl (fun u hu=>sub_op u HS2.out.1 HS2.out.2 rfl rfl) hw ?_
      refine qv rfl (fun u hu=>idxSl_op underlying38 aggTot.size HX2.out u rfl rfl) hw ?_
      refine qv rfl (fun u hu=>load_any_op u (HLD.out u (EnvX.row hu mH)).2 rfl) hw ?_
      refine qw 2 hw ?_
      refine qv rfl (fun u hu=>sub_op u HS1.out.1 HS1.out.2 rfl rfl) hw ?_
      refine qv rfl (fun u hu=>idxSl_op underlying38 aggTot.size HX1.out u rfl rfl) hw ?_
      refine qv rfl (fun u hu=>load_any_op u (HLD.out u (EnvX.row hu mH)).1 rfl) hw ?_
      refine qc rfl func109 (fun u hu=>HJ.out u (EnvX.bel hu)) hw ?_
      refine wpG_nil<|aO 15 (hOp_fresh (R:=BuiltR 61 (totC (joinT y x))) (M0:=((g,oc cur 61)::M0)) rfl rfl (fun _ h=>h) (fun u hu=>FAt_buildR elTot (totC_len join_ok.len) (totC_one _) rfl u) ?_)
      rintro _ _ ⟨gj,rfl,rfl⟩ hf he108;intro K' hK';go_big_quiet_op;go_big_quiet_on
      have HGJ:=hD (hf _ (mS.2 rfl))
      clear hf
      change anyH _ _ _ _ _ _ _ _ ((gj,oc (totC (joinT y x)).toArray 61)::((g,oc cur 61)::M0))
      refine aO 16 (hOp_own (gd:=none) (R:=GrownR w0 61 37 (k+1) ((q.map totC).flatten++totC (joinT y x)) M0) rfl rfl rfl rfl (fun u hu=>appX_op elTot (m:=1) M0 hu HQL.out (by rw[Nat.one_mul];exact totC_len join_ok.len) (totC_one _) HFK.out (mA ⟨⟨(mT mH),HGW.out.1⟩,fun _ h=>by cases h⟩) (src_box (k:=0) hu mH (by rw[List.drop_zero,List.take_length])) (fun z hz=>⟨mT (mT hz),fun y hy=>by cases mS.1 hy;exact HGW.out.2 z hz⟩) (by have:=HKB.out;omega) rfl rfl) ?_)
      rintro x9 M' ⟨N9,rfl,hF9,hn9⟩ he109;intro K' hK';go_big_quiet_op;go_big_quiet_on
      have HF9:=hD (And.intro hF9 hn9)
      clear hF9 hn9
      refine phF [17] 0 rfl he109 fun hw=>?_
      refine qo rfl hw ?_
      refine eH fun u112 EX111=>?_
      have HNX:Hid (JInv (fun _ _=>true) w0 M0 out 1000001 x9 u112):=by
       refine⟨r,joinT y x,N9,?_,by rw[←HCT.out];exact HCAR.out,by have:=HLEN.out;omega,?_,HF9.out.2,EX111.out⟩
       · intro t ht
         rcases List.mem_cons.1 ht with rfl|h
         · exact join_ok
         · exact HOKR.out t h
       · have h:=HF9.out.1
         rw[List.reverse_cons,HQQ.out,List.map_append,List.flatten_append,List.map_singleton,List.flatten_singleton,HLEN.out.2]
         exact h
      have HLV:Hid (lenV x9=k+1):=by
       rcases HF9.out.1 with ⟨_,_,_,e,_⟩|⟨_,_,e,_⟩
       · show _=_;rw[e];rfl
       · cases e
      go_wp2_with fail
      go_step3
      refine⟨rfl,⟨x9,_,_,_,_,_,_,_,_,_,_,_,_,_,_,_,_,_,_,_,_,_,_,_,_,_,_,_,_,_,_,_,_,_,_,_,_,_,_,rfl,HNX⟩,?_⟩
      show lenV x9<k+2
      rw[HLV.out]
      omega
    · have hxy2:true=false:=by
       have h:(fun _ _=>true) y x=true:=rfl
       rw[←h]
       exact Bool.eq_false_iff.2 hxy
      have HD:Hid (∀u,Calls Tryz.prog 66 #[.agg (totA y), .agg (totA x)] u fun e w'=>e= .returned (.bool false)∧Below u.heap.size u w'):=fun u=>by
       have h:=always_any y x u HY.out HX.out
       rwa[hxy2]at h
      have HOUT:Hid (out=q++[y,x]):=by
       show _=_
       rw[←HCAR.out,jlT,if_neg hxy,List.reverse_cons,List.reverse_cons,HQQ.out,aA]
       rfl
      clear hxy hxy2
      go_upto_region 1 with (fail)
      refine rgQ [0,1,2] [] EK rfl fun hw=>?_
      refine qo rfl hw ?_
      refine qv rfl (fun u hu=>len_op underlying38 HK.out u rfl) hw ?_
      refine qo rfl hw ?_
      refine enP fun u103 EX102=>?_
      go_upto_region 2 with (fail)
      refine rgH [0,1,2,3,4,5,6,7,8,9,10,11,12,13,14,15,16] 0 EX102 rfl (by kernel_rfl) (by kernel_rfl) ?_;intro hw104 hone
      refine qo rfl ⟨_,hw104⟩ ?_
      refine qv rfl (fun u hu=>lssI_op u HG2.out rfl rfl) ⟨_,hw104⟩ ?_
      iterate 4 refine qo rfl ⟨_,hw104⟩ ?_
      refine qv rfl (fun u hu=>sub_op u HS2.out.1 HS2.out.2 rfl rfl) ⟨_,hw104⟩ ?_
      refine qv rfl (fun u hu=>idxSl_op underlying38 aggTot.size HX2.out u rfl rfl) ⟨_,hw104⟩ ?_
      refine qv rfl (fun u hu=>load_any_op u (HLD.out u (EnvX.row hu mH)).2 rfl) ⟨_,hw104⟩ ?_
      iterate 2 refine qo rfl ⟨_,hw104⟩ ?_
      refine qv rfl (fun u hu=>sub_op u HS1.out.1 HS1.out.2 rfl rfl) ⟨_,hw104⟩ ?_
      refine qv rfl (fun u hu=>idxSl_op underlying38 aggTot.size HX1.out u rfl rfl) ⟨_,hw104⟩ ?_
      refine qv rfl (fun u hu=>load_any_op u (HLD.out u (EnvX.row hu mH)).1 rfl) ⟨_,hw104⟩ ?_
      (refine wpG_callV (f:=66) (args:= #[.agg (totA y), .agg (totA x)]) (caps:= #[]) (all:= #[.agg (totA y), .agg (totA x)]) (v:= .bool false) rfl rfl rfl rfl rfl func66 rfl rfl (fun u hu=>HD.out u) ?_ hw104;intro K hK;go_big_quiet_op;go_big_quiet_on)
      iterate 2 refine qo rfl ⟨_,hw104⟩ ?_
      clear hone hw104;refine eH fun u106 EX105=>?_
      go_wp2_with fail
      simp only[Exit.jump]
      go_ret
      refine⟨_,_,rfl,EX105.out,[(g,oc cur 61)],rfl,?_,fun y hy=>by cases mS.1 hy;exact HGW.out⟩
      rw[HOUT.out,HQI.out.2.2]
      exact .inl ⟨g,cap,cur,rfl,rfl,HCUR.out⟩
 · intro hrest
   go_upto_region 1 with (fail)
   refine wp_label ?_
   rename_i hK
   exact hK _ _ (hrest _ _ ⟨v,_,_,_,_,_,_,_,_,_,_,_,_,_,_,_,_,_,_,_,_,_,_,_,_,_,_,_,_,_,_,_,_,_,_,_,_,_,_,rfl,HI⟩)
theorem veqIds (l q:List (List Int)) (A A':Option Addr) (n c m c':Nat) (w:World) (hl:l.length=n) (hq:q.length=m) (hn:n≤1000000) (hm:m≤1000000) (hnc:n≤c) (hc:c≤maxLen) (hmc:m≤c') (hc':c'≤maxLen) (hI:isIds l) (hJ:isIds q) (hA:IdsIn w w.heap.size A l) (hB:IdsIn w w.heap.size A' q):
   Rz 82 #[.slice A n c, .slice A' m c'] w (.bool (decide (l=q))):=by
 unfold Rz
 unfold maxLen at hc hc'
 have HL:=hD hl
 have HQ:=hD hq
 have HI:=hD (And.intro hI hA)
 have HJ:=hD (And.intro hJ hB)
 clear hI hA hJ hB hl hq
 by_cases hnm:n=m
 · subst hnm
   go_enter func82,ntmps82
   go_upto_region 4 with (fail)
   go_loopw [13] (fun i u=> ∃k:Nat,k≤n∧i= .int .i64 k∧Below w.heap.size w u∧Hid (l.take k=q.take k)) (fun i _=>n- (intOf i).toNat)
   case atStart=>exact⟨0,by omega,rfl,Below.refl _ _,rfl⟩
   case round=>
    obtain⟨k,hk,rfl,hbl,hsame⟩:=hrel
    by_cases hlt:k<n
    · have hk2:(k:Int)<(n:Int):=by omega
      obtain⟨a1,rfl,h1⟩:=HI.out.2.loads HI.out.1 (k:=k) (by rw[HL.out];exact hlt)
      obtain⟨a2,rfl,h2⟩:=HJ.out.2.loads HJ.out.1 (k:=k) (by rw[HQ.out];exact hlt)
      have H1:=hD h1
      have H2:=hD h2
      have E1:Hid (EnvX w wr []):=⟨hbl,fun _ _ h=>by cases h⟩
      have HX:=hD (HI.out.1.get (i:=k) (by rw[HL.out];exact hlt))
      have HY:=hD (HJ.out.1.get (i:=k) (by rw[HQ.out];exact hlt))
      have HST:=hD (ids_step hsame.out (by rw[HL.out];exact hlt) (by rw[HQ.out];exact hlt))
      have HNE:Hid (l.getD k []≠q.getD k []→l≠q):=fun h e=>h (by rw[e])
      clear h1 h2 hsame hbl
      generalize l.getD k []=x at *
      generalize q.getD k []=y at *
      go_upto_region 6 with (fail)
      refine rgK [0,1,2,3,4,5,6,7,8] 0 E1 rfl fun hw=>?_
      refine qw 3 hw ?_
      refine qv rfl (fun u hu=>load_run_op u (H1.out u (nl hu)) rfl) hw ?_
      refine qw 3 hw ?_
      refine qv rfl (fun u hu=>load_run_op u (H2.out u (nl hu)) rfl) hw ?_
      refine qv rfl (fun u hu=>neq_id_op HX.out.1 HY.out.1 u rfl rfl) hw ?_
      refine eH fun u3 EX2=>?_
      by_cases hxy:x=y
      · have hb:eqL x y=true:=by simp[eqL,hxy]
        rw[hb]
        go_wp2
        go_roundw
        case rel=>exact⟨k+1,by omega,by go_num,EnvX.bel EX2.out,HST.out hxy⟩
        case measure=>simp[intOf];omega
      · have hb:eqL x y=false:=by simp[eqL,hxy]
        have HR:Hid (decide (l=q)=false):=by
         show _=_
         simp[HNE.out hxy]
        rw[hb]
        go_wp2
        go_ret
        exact⟨by rw[HR.out];rfl,EnvX.bel EX2.out⟩
    · obtain rfl:k=n:=by omega
      have HR:Hid (decide (l=q)=true):=by
        have h:=hsame.out
        rw[tL (by rw[HL.out];exact Nat.le_refl _),tL (by rw[HQ.out];exact Nat.le_refl _)]at h
        show _=_
        simp[h]
      clear hsame
      go_wp2
      go_ret
      exact⟨by rw[HR.out];rfl,hbl⟩
 · have hne: ¬(n:Int)=(m:Int):=by omega
   have HR:Hid (decide (l=q)=false):=by
    show _=_
    have:l≠q:=fun e=>hnm (by rw[←HL.out,←HQ.out,e])
    simp[this]
   go_enter func82,ntmps82
   go_wp2
   go_ret
   exact⟨by rw[HR.out];rfl,Below.refl _ _⟩
theorem veqTxs(l q:List TxM)(A A':Option Addr)(n c m c':Nat)(w:World)(hl:l.length=n)(hn:n≤1000000)(hA:TxsIn w A l)(hl':q.length=m)(hm:m≤1000000)(hA':TxsIn w A' q):
  Rz 83 #[.slice A n c, .slice A' m c', .func (.func 84) #[] #[]] w (.bool (decide (rsT l=rsT q))):=by
 unfold Rz
 have HL:=hD hl
 have HL':=hD hl'
 have HAA:=hD hA
 have HAA':=hD hA'
 have HN63:Hid (n<9223372036854775808):=by show _<_;omega
 have HM63:Hid (m<9223372036854775808):=by show _<_;omega
 have HXS:Hid (∀(t s:TxM)(u:World),EnvX w u []→TxOk w t→TxOk w s→Calls Tryz.prog 84 #[txV t,txV s] u fun e w'=>e= .returned (.bool (sameX t.r s.r))∧Below u.heap.size u w'):=fun t s u hu k1 k2=>sameP_any t s u (k1.up (EnvX.bel hu)) (k2.up (EnvX.bel hu))
 have E1:Hid (EnvX w w []):=EnvX.start w
 clear hl hn hA hl' hm hA'
 by_cases d4:n=m
 case neg=>
  have D4:Hid (decide ((n:Int)≠(m:Int))=true):=decide_eq_true (by omega)
  have HF:Hid (decide (rsT l=rsT q)=false):=decide_eq_false fun e=>d4 (by have h:=congrArg List.length e;unfold rsT at h;rw[lM,lM,HL.out,HL'.out]at h;exact h)
  clear d4
  go_enter func83,ntmps83
  go_upto_region 1 with (fail)
  refine rgQ [0,1,2,3,4] [] E1 rfl fun hw=>?_
  refine qo rfl hw ?_
  refine qv rfl (fun u hu=>len_op underlying23 HN63.out u rfl) hw ?_
  refine qo rfl hw ?_
  refine qv rfl (fun u hu=>len_op underlying23 HM63.out u rfl) hw ?_
  refine qv rfl (fun u hu=>neZ_op u D4.out rfl rfl) hw ?_
  refine enP fun u3 EX2=>?_
  go_upto_region 2 with (fail)
  refine rgQ [0] [] EX2 rfl fun hw=>?_
  refine qo rfl hw ?_
  refine enP fun u6 EX5=>?_
  have HBE:=hD (EnvX.bel EX5.out)
  go_wp2
  go_ret
  exact⟨by rw[HF.out];first|done|rfl,HBE.out⟩
 have D4:Hid (decide ((n:Int)≠(n:Int))=false):=decide_eq_false (by omega)
 subst d4
 go_enter func83,ntmps83
 go_upto_region 1 with (fail)
 refine rgQ [0,1,2,3,4] [] E1 rfl fun hw=>?_
 refine qo rfl hw ?_
 refine qv rfl (fun u hu=>len_op underlying23 HN63.out u rfl) hw ?_
 refine qo rfl hw ?_
 refine qv rfl (fun u hu=>len_op underlying23 HM63.out u rfl) hw ?_
 refine qv rfl (fun u hu=>neZ_op u D4.out rfl rfl) hw ?_
 refine enP fun u3 EX2=>?_
 go_upto_region 3 with (fail)
 refine rgQ [0,1,2] [] EX2 rfl fun hw=>?_
 refine qo rfl hw ?_
 refine qv rfl (fun u hu=>len_op underlying23 HN63.out u rfl) hw ?_
 refine qo rfl hw ?_
 refine enP fun u6 EX5=>?_
 have EJ:=hD EX5.out
 clear EX5 E1
 go_upto_region 4 with (fail)
 go_loopw [17] (fun iv u=> ∃i:Nat,i≤n∧iv= .int .i64 (i:Int)∧Hid ((∀j,j<i→(l.getD j noTxM).r=(q.getD j noTxM).r)∧EnvX w u [])) (fun iv _=>n- (intOf iv).toNat)
 case atStart=>exact⟨0,by omega,rfl,(fun j hj=>by omega),EJ.out⟩
 case round=>
  obtain⟨i,hi,rfl,hinv⟩:=hrel
  have H1:=hD hinv.out.1
  have EK:=hD hinv.out.2
  clear hinv EJ
  by_cases hlt:i<n
  · have C2:Hid (decide ((i:Int)<(n:Int))=true):=decide_eq_true (by omega)
    have HI:=hD hlt
    have hil:i<l.length:=by rw[HL.out];exact hlt
    have hil':i<q.length:=by rw[HL'.out];exact hlt
    obtain⟨ad,rfl,-,hld⟩:=HAA.out.loads hil
    obtain⟨ad',rfl,-,hld'⟩:=HAA'.out.loads hil'
    have HLD:=hD (And.intro hld hld')
    have HTX:Hid (TxOk w (l.getD i noTxM)∧TxOk w (q.getD i noTxM)):=⟨HAA.out.get hil,HAA'.out.get hil'⟩
    obtain⟨x,hx⟩: ∃x,l.getD i noTxM=x:=⟨_,rfl⟩
    obtain⟨y,hy⟩: ∃y,q.getD i noTxM=y:=⟨_,rfl⟩
    have HXY:=hD (And.intro hx hy)
    rw[hx,hy]at HLD HTX
    obtain⟨b,hb⟩: ∃b,sameX x.r y.r=b:=⟨_,rfl⟩
    have HEQ:=hD hb
    have HXB:Hid (Rt w 84 #[txV x,txV y] (.bool b)):=fun u hu=>by have h:=HXS.out x y u hu HTX.out.1 HTX.out.2;rwa[hb]at h
    clear hld hld' hil hil' hlt hx hy hb
    go_upto_region 4 with (fail)
    refine rgQ [0] [] EK rfl fun hw=>?_
    refine qv rfl (fun u hu=>ltZ_op u C2.out rfl rfl) hw ?_
    refine enP fun u23 EX22=>?_
    go_upto_region 5 with (fail)
    refine rgQ [0,1,2] [3,4,5] EX22 rfl fun hw=>?_
    refine qo rfl hw ?_
    refine qv rfl (fun u hu=>idxSl_op underlying23 aggTx.size HI.out u rfl rfl) hw ?_
    refine qv rfl (fun u hu=>load_any_op u (HLD.out.1 u (nl hu)).1 rfl) hw ?_
    refine wpG_nil<|qn rfl (new_tx _) fun g8 HG8 he25=>?_
    refine phE [4] [5] he25 fun hw=>?_
    refine qo rfl hw ?_
    refine wpG_nil<|(sh rfl HG8 (infoTx _ (txA_size _)) ((txA_size _).trans (txA_size _).symm) (txA_one _) ?_)
    refine fun _=>enL fun u29 EX28=>?_
    go_upto_region 6 with (fail)
    refine rgQ [0,1,2,3] [4,5] EX28 rfl fun hw=>?_
    refine qw 2 hw ?_
    refine qv rfl (fun u hu=>idxSl_op underlying23 aggTx.size HI.out u rfl rfl) hw ?_
    refine qv rfl (fun u hu=>load_any_op u (HLD.out.2 u (nl hu)).1 rfl) hw ?_
    refine wpG_nil<|qn rfl (new_tx _) fun g9 HG9 he31=>?_
    change lexH _ _ _ _ _ _ [(g9,oc (txA noTxM) 77),(g8,oc (txA x) 77)]
    refine(sh rfl HG9 (infoTx _ (txA_size _)) ((txA_size _).trans (txA_size _).symm) (txA_one _) ?_)
    refine fun _=>enL fun u34 EX33=>?_
    cases b with
    | false=>
     have HF:Hid (decide (rsT l=rsT q)=false):=decide_eq_false fun e=>by
      have h:(rsT l).getD i noTx=(rsT q).getD i noTx:=congrArg (fun z:List TxR=>z.getD i noTx) e
      have e1:=rsT_get (l:=l) (i:=i) (by rw[HL.out];exact HI.out)
      have e2:=rsT_get (l:=q) (i:=i) (by rw[HL'.out];exact HI.out)
      rw[e1,e2,HXY.out.1,HXY.out.2]at h
      exact of_decide_eq_false HEQ.out h
     go_upto_region 7 with (fail)
     refine rgP [0,1,2,3,4] [] EX33 rfl ?_;intro hw35 hone
     refine qo rfl ⟨_,hw35⟩ ?_
     refine ql rfl (mT mH) trivial ⟨_,hw35⟩ ?_
     refine ql rfl mH trivial ⟨_,hw35⟩ ?_
     (refine wpG_callV (f:=84) (args:= #[txV x,txV y]) (caps:= #[]) (all:= #[txV x,txV y]) (v:= .bool false) rfl rfl rfl rfl rfl func84 rfl rfl (fun u hu=>HXB.out u (nl hu)) ?_ hw35;intro K hK;go_big_quiet_op;go_big_quiet_on)
     refine qo rfl ⟨_,hw35⟩ ?_
     clear hone hw35;refine enP fun u37 EX36=>?_
     go_upto_region 8 with (fail)
     refine rgQ [0] [] EX36 rfl fun hw=>?_
     refine qo rfl hw ?_
     refine enP fun u40 EX39=>?_
     have HBE:=hD (EnvX.bel EX39.out)
     go_wp2
     go_ret
     exact⟨by rw[HF.out];first|done|rfl,HBE.out⟩
    | true=>
     have H3:Hid (∀j,j<i+1→(l.getD j noTxM).r=(q.getD j noTxM).r):=fun j hj=>by
      rcases Nat.lt_or_ge j i with h|h
      · exact H1.out j h
      · rw[show j=i by omega,HXY.out.1,HXY.out.2];exact of_decide_eq_true HEQ.out
     go_upto_region 7 with (fail)
     refine rgP [0,1,2,3,4] [] EX33 rfl ?_;intro hw35 hone
     refine qo rfl ⟨_,hw35⟩ ?_
     refine ql rfl (mT mH) trivial ⟨_,hw35⟩ ?_
     refine ql rfl mH trivial ⟨_,hw35⟩ ?_
     (refine wpG_callV (f:=84) (args:= #[txV x,txV y]) (caps:= #[]) (all:= #[txV x,txV y]) (v:= .bool true) rfl rfl rfl rfl rfl func84 rfl rfl (fun u hu=>HXB.out u (nl hu)) ?_ hw35;intro K hK;go_big_quiet_op;go_big_quiet_on)
     refine qo rfl ⟨_,hw35⟩ ?_
     clear hone hw35;refine enP fun u37 EX36=>?_
     have hii:=HI.out
     have hn:=HN63.out
     go_wp2
     go_roundw
     case rel=>exact⟨i+1,by omega,by go_num,H3.out,EX36.out.sub (fun _ h=>by cases h)⟩
     case measure=>simp[intOf];omega
  · obtain rfl:i=n:=by omega
    have C2:Hid (decide ((i:Int)<(i:Int))=false):=decide_eq_false (by omega)
    have HF:Hid (decide (rsT l=rsT q)=true):=decide_eq_true (rsT_ext (by rw[HL.out,HL'.out]) (by rw[HL.out];exact H1.out))
    go_upto_region 4 with (fail)
    refine rgQ [0] [] EK rfl fun hw=>?_
    refine qv rfl (fun u hu=>ltZ_op u C2.out rfl rfl) hw ?_
    refine enP fun u203 EX202=>?_
    go_upto_region 10 with (fail)
    refine rgQ [0] [] EX202 rfl fun hw=>?_
    refine qo rfl hw ?_
    refine enP fun u206 EX205=>?_
    have HBE:=hD (EnvX.bel EX205.out)
    go_wp2
    go_ret
    exact⟨by rw[HF.out];first|done|rfl,HBE.out⟩
theorem blk_sameV(b d:BlkM):decide (b.r=d.r)=(eqH b.h d.h&& (decide (b.l=d.l) && decide (rsT b.t=rsT d.t))):=by
 unfold eqH
 rw[Bool.eq_iff_iff]
 simp only[decide_eq_true_eq,Bool.and_eq_true,BlkM.r,BlkR.mk.injEq]
theorem vbsame_any(b d:BlkM)(w:World)(kb:BlkOk w b)(mb:midBlk b)(kd:BlkOk w d)(md:midBlk d):
  Rz 39 #[blkV b,blkV d] w (.bool (decide (b.r=d.r))):=by
 unfold Rz
 have HKB:Hid (okHd b.h):=kb.h
 have HKD:Hid (okHd d.h):=kd.h
 have HS:=hD (blk_sameV b d)
 have m1:=mb.1
 have m2:=md.1
 have m3:=mb.2.1
 have m4:=md.2.1
 have l1:=kb.l1
 have l2:=kd.l1
 have l3:=kb.l2
 have l4:=kd.l2
 have HIDS:Hid (Rt w 82 #[.slice b.A1 b.n1 b.c1, .slice d.A1 d.n1 d.c1] (.bool (decide (b.l=d.l)))):=fun u hu=>veqIds b.l d.l b.A1 d.A1 b.n1 b.c1 d.n1 d.c1 u kb.l1 kd.l1 (by omega) (by omega) kb.b1.1 kb.b1.2 kd.b1.1 kd.b1.2 kb.o1 kd.o1 (kb.m1.up (EnvX.bel hu)) (kd.m1.up (EnvX.bel hu))
 have HLST:Hid (Rt w 83 #[.slice b.A2 b.n2 b.c2, .slice d.A2 d.n2 d.c2, .func (.func 84) #[] #[]] (.bool (decide (rsT b.t=rsT d.t)))):=fun u hu=>veqTxs b.t d.t b.A2 d.A2 b.n2 b.c2 d.n2 d.c2 u kb.l2 (by omega) (kb.m2.up (EnvX.bel hu)) kd.l2 (by omega) (kd.m2.up (EnvX.bel hu))
 obtain⟨b1,hb1⟩: ∃b1,decide (b.l=d.l)=b1:=⟨_,rfl⟩
 obtain⟨b2,hb2⟩: ∃b2,decide (rsT b.t=rsT d.t)=b2:=⟨_,rfl⟩
 obtain⟨b3,hb3⟩: ∃b3,eqH b.h d.h=b3:=⟨_,rfl⟩
 rw[hb1]at HIDS HS
 rw[hb2]at HLST HS
 rw[hb3]at HS
 have HB3:=hD hb3
 have E1:Hid (EnvX w ((w.alloc (.cells (blkA b) 37)).alloc (.cells (blkA d) 37)) [(w.heap.size+1,oc (blkA d) 37),(w.heap.size,oc (blkA b) 37)]):=(EnvX.start w).two _ _
 clear kb mb kd md m1 m2 m3 m4 l1 l2 l3 l4 hb1 hb2 hb3
 unfold blkV
 go_enter func39,ntmps39
 go_upto_region 1 with (fail)
 generalize (w.alloc (.cells (blkA b) 37)).alloc (.cells (blkA d) 37)=W at *
 cases b3 with
 |false=>
  have HF:Hid (decide (b.r=d.r)=false):=HS.out
  refine rgQ [0,1,2,3,4,5,6,7,8,9,10,11,12,13,14,15,16,17,18,19] [] E1 rfl fun hw=>?_
  refine qf rfl hw ?_
  refine qv rfl (fun u hu=>load_any_op u (loads_hd HKB.out.len (box_blk_hd hu (mT mH) HKB.out.len)).1 rfl) hw ?_
  refine qf rfl hw ?_
  refine qv rfl (fun u hu=>load_any_op u (loads_hd HKD.out.len (box_blk_hd hu mH HKD.out.len)).1 rfl) hw ?_
  refine qv rfl (fun u hu=>eqlHd_op HKB.out HKD.out HB3.out u rfl rfl) hw ?_
  refine qw 15 hw ?_
  refine enP fun u3 EX2=>?_
  have HBE:=hD (EnvX.bel EX2.out)
  go_wp2
  go_ret
  exact⟨by rw[HF.out];first|done|rfl,HBE.out⟩
 | true=>
  cases b1 with
  |false=>
   have HF:Hid (decide (b.r=d.r)=false):=HS.out
   refine rgQ [0,1,2,3,4,5,6,7,8,9,10,11,12,13,14,15,16,17,18,19] [] E1 rfl fun hw=>?_
   refine qf rfl hw ?_
   refine qv rfl (fun u hu=>load_any_op u (loads_hd HKB.out.len (box_blk_hd hu (mT mH) HKB.out.len)).1 rfl) hw ?_
   refine qf rfl hw ?_
   refine qv rfl (fun u hu=>load_any_op u (loads_hd HKD.out.len (box_blk_hd hu mH HKD.out.len)).1 rfl) hw ?_
   refine qv rfl (fun u hu=>eqlHd_op HKB.out HKD.out HB3.out u rfl rfl) hw ?_
   refine qw 2 hw ?_
   refine ql rfl (mT mH) HKB.out.len hw ?_
   refine qf rfl hw ?_
   refine ql rfl mH HKD.out.len hw ?_
   refine qc rfl func82 (fun u hu=>HIDS.out u (nl hu)) hw ?_
   refine qw 9 hw ?_
   refine enP fun u3 EX2=>?_
   have HBE:=hD (EnvX.bel EX2.out)
   go_wp2
   go_ret
   exact⟨by rw[HF.out];first|done|rfl,HBE.out⟩
  |true=>
   have HF:Hid (decide (b.r=d.r)=b2):=HS.out
   refine rgQ [0,1,2,3,4,5,6,7,8,9,10,11,12,13,14,15,16,17,18,19] [] E1 rfl fun hw=>?_
   refine qf rfl hw ?_
   refine qv rfl (fun u hu=>load_any_op u (loads_hd HKB.out.len (box_blk_hd hu (mT mH) HKB.out.len)).1 rfl) hw ?_
   refine qf rfl hw ?_
   refine qv rfl (fun u hu=>load_any_op u (loads_hd HKD.out.len (box_blk_hd hu mH HKD.out.len)).1 rfl) hw ?_
   refine qv rfl (fun u hu=>eqlHd_op HKB.out HKD.out HB3.out u rfl rfl) hw ?_
   refine qw 2 hw ?_
   refine ql rfl (mT mH) HKB.out.len hw ?_
   refine qf rfl hw ?_
   refine ql rfl mH HKD.out.len hw ?_
   refine qc rfl func82 (fun u hu=>HIDS.out u (nl hu)) hw ?_
   refine qw 3 hw ?_
   refine ql rfl (mT mH) HKB.out.len hw ?_
   refine qf rfl hw ?_
   refine ql rfl mH HKD.out.len hw ?_
   refine qc rfl func83 (fun u hu=>HLST.out u (nl hu)) hw ?_
   refine qw 2 hw ?_
   refine enP fun u3 EX2=>?_
   have HBE:=hD (EnvX.bel EX2.out)
   go_wp2
   go_ret
   exact⟨by rw[HF.out];first|done|rfl,HBE.out⟩
def KeptA(N:Boxes)(Q:World→Prop):Prop:= ∀(w0 u:World)(M:Boxes),EnvX w0 u M→(∀y∈N,y∈M)→Q u
theorem KeptA.mono{N N':Boxes}{Q:World→Prop}(h:KeptA N Q)(hN: ∀y∈N,y∈N'):KeptA N' Q:=fun w0 u M hu hM=>h w0 u M hu fun y hy=>hM y (hN y hy)
def Hands(f:FuncId)(args:Array Value)(w:World)(R:Value→Boxes→Prop):Prop:=
  Calls Tryz.prog f args w fun e w'=> ∃x N,e= .returned x∧R x N∧Below w.heap.size w w'∧ ∀y∈N,w.heap.size≤y.1∧w'.heap[y.1]?=some y.2
def RTxs(l:List TxM)(n:Nat)(x:Value)(N:Boxes):Prop:= ∃q A c,x= .slice A n c∧n≤c∧c≤maxLen∧q.length=n∧rsT q=rsT l∧KeptA N (fun u=>TxsIn u A q)
def RBlk(r:BlkR)(x:Value)(N:Boxes):Prop:= ∃b,x=blkV b∧KeptA N (IsBlk r b)∧ ∃v,IsBlk r b v
def RTip(r:TipR)(x:Value)(N:Boxes):Prop:= ∃t,x=tipV t∧KeptA N (IsTip r t)∧ ∃v,IsTip r t v
theorem kept_ids{l:List (List Int)}{n c:Nat}{A:Option Addr}{N:Boxes}(h:FreshR 26 32 n (l.flatten.map u8v) (.slice A n c) N)(hl:l.length=n)(hI:isIds l):KeptA N (fun u=>IdsIn u u.heap.size A l):=
 fun _ _ _ hu hN=>fresh_idsB h hI (fun y hy=>hu.box _ _ (hN y hy)) hl
theorem kept_tots{l:List Tot}{n c:Nat}{A:Option Addr}{N:Boxes}(h:FreshR 61 37 n (l.map totC).flatten (.slice A n c) N)(hl:l.length=n)(hI:okTs l):KeptA N (fun u=>TotsIn u u.heap.size A l):=
 fun _ _ _ hu hN=>fresh_totsB h hl hI (fun y hy=>hu.box _ _ (hN y hy))
theorem kept_cells{e:TypeId}{z n c:Nat}{A:Option Addr}{xs:List Value}{N:Boxes}(h:FreshR e z n xs (.slice A n c) N)(hl:xs.length=n*z):KeptA N (fun u=>CellsIn u u.heap.size A xs):=
 fun _ _ _ hu hN=>own_cells (h.own (B:=0) hl (fun y hy=>⟨Nat.zero_le _,hu.box _ _ (hN y hy)⟩))
theorem kept_tx{w:World}{x:TxM}(hx:TxOk w x){A4 A7:Option Addr}{c4 c7:Nat}{N4 N7 N:Boxes}(h4:FreshR 133 33 x.n1 (x.r.ins.map inC).flatten (.slice A4 x.n1 c4) N4∧x.n1≤c4∧c4≤maxLen)(h7:FreshR 135 2 x.n2 (x.r.outs.map outC).flatten (.slice A7 x.n2 c7) N7∧x.n2≤c7∧c7≤maxLen)
  (k4: ∀y∈N4,y∈N) (k7: ∀y∈N7,y∈N):KeptA N (fun u=>TxOk u ⟨x.r,A4,x.n1,c4,A7,x.n2,c7⟩):=fun w0 u M hu hN=>
 ⟨hx.l1,h4.2,hx.o1,kept_cells h4.1 (by rw[(rowsIn hx.o1).flat_len,lM,hx.l1]) w0 u M hu (fun y hy=>hN y (k4 y hy)),hx.l2,h7.2,hx.o2,kept_cells h7.1 (by rw[(rowsOut _).flat_len,lM,hx.l2]) w0 u M hu (fun y hy=>hN y (k7 y hy))⟩
def CopN(l q:List TxM)(i:Nat)(N:Boxes):Prop:=(∀j,j<i→(q.getD j noTxM).r=(l.getD j noTxM).r∧KeptA N (fun u=>TxOk u (q.getD j noTxM)))∧ ∀j,i≤j→q.getD j noTxM=l.getD j noTxM
theorem CopN.step{l q:List TxM}{i:Nat}{N N':Boxes}{t:TxM}(h:CopN l q i N)(hi:i<q.length)(hr:t.r=(l.getD i noTxM).r)(hk:KeptA N' (fun u=>TxOk u t))(hN: ∀y∈N,y∈N'):CopN l (q.set i t) (i+1) N':=by
 have hg: ∀j,j≠i→(q.set i t).getD j noTxM=q.getD j noTxM:=fun j hj=>by
  rw[gD,List.getElem?_set_ne (Ne.symm hj),gD]
 have hs:(q.set i t).getD i noTxM=t:=by
  rw[gD,List.getElem?_set_self hi]
  rfl
 refine⟨fun j hj=>?_,fun j hj=>?_⟩
 · by_cases e:j=i
   · subst e
     rw[hs]
     exact⟨hr,hk⟩
   · rw[hg j e]
     have:=h.1 j (by omega)
     exact⟨this.1,this.2.mono hN⟩
 · rw[hg j (by omega)]
   exact h.2 j (by omega)
theorem CopN.done{l q:List TxM}{N:Boxes}{n:Nat}(h:CopN l q n N)(hl:l.length=n)(hq:q.length=n):rsT q=rsT l∧ ∀t∈q,KeptA N (fun u=>TxOk u t):=by
 refine⟨rsT_ext (by rw[hq,hl]) (fun j hj=>(h.1 j (by omega)).1),fun t ht=>?_⟩
 obtain⟨j,hj,rfl⟩:=List.getElem_of_mem ht
 have:=(h.1 j (by omega)).2
 rwa[gD,gE hj]at this
def RowX(n c:Nat)(q:List TxM)(cs:Array Value):Prop:=q.length=n∧cs.size=c*2∧cs.toList.take (n*2)=(q.map txC).flatten
def setX(cs:Array Value)(k:Nat)(t:TxM):Array Value:=(cs.toList.take k++txC t++cs.toList.drop (k+2)).toArray
theorem RowX.set{n c i:Nat}{q:List TxM}{cs:Array Value}(h:RowX n c q cs)(hi:i<n)(hc:n≤c)(t:TxM):RowX n c (q.set i t) (setX cs (0+i*2) t):=by
 refine⟨by rw[List.length_set];exact h.1,?_,?_⟩
 · unfold setX
   rw[List.size_toArray]
   exact row_put_len (z:=2) (v:=txC t) hi hc rfl (by rw[Array.length_toList];exact h.2.1)
 · unfold setX
   rw[List.map_set]
   exact row_set (z:=2) (rowsTx q) (by rw[lM];exact h.1) h.2.2 hi rfl
theorem RowX.room{n c i:Nat}{q:List TxM}{cs:Array Value}(h:RowX n c q cs)(hi:i<n)(hc:n≤c):0+i*2+2≤cs.size:=by rw[h.2.1];omega
theorem RowX.get{n c i:Nat}{q:List TxM}{cs:Array Value}(h:RowX n c q cs)(hi:i<n):(cs.toList.drop (0+i*2)).take 2=txC (q.getD i noTxM):=by
 rw[row_get (z:=2) (rowsTx q) (by rw[lM];exact h.1) h.2.2 hi,gD,List.getElem?_map,gD,gE (by rw[h.1];exact hi)]
 rfl
theorem tx_put{cs:Array Value}{k:Nat}(hk:k+2≤cs.size)(t:TxM):(Tryz.prog.info? 77).map (·.size)=some (Value.agg (txA t)).cells.size∧k+(Value.agg (txA t)).cells.size≤cs.size∧(Value.agg (txA t)).cells.all (·.oneCell')=true∧cs.toList.take k++(Value.agg (txA t)).cells.toList++cs.toList.drop (k+(Value.agg (txA t)).cells.size)=(setX cs k t).toList:=
 put_factsZ (v:=txA t) (old:=cs) (cs:=setX cs k t) aggTx.size rfl (txA_one _) hk List.toList_toArray
theorem built_tx(r:TxR)(A:Option Addr)(n c:Nat)(A':Option Addr)(n' c':Nat):Tryz.prog.built 77 [(0, .slice A n c),(1, .slice A' n' c')]=some (txA ⟨r,A,n,c,A',n',c'⟩):=by
 show _=some (#[Value.slice A n c,Value.slice A' n' c']:Array Value)
 kernel_rfl
theorem vcopyTxs(l:List TxM)(A:Option Addr)(n c:Nat)(w:World)(hl:l.length=n)(hn:n≤1000000)(hA:TxsIn w A l)(hf: ∀x∈l,bigX x.r):Hands 125 #[.slice A n c] w (RTxs l n):=by
 unfold Hands
 have HL:=hD hl
 have HN6:=hD hn
 have HN63:Hid (n<9223372036854775808):=by show _<_;omega
 have HAA:=hD hA
 have HFW:=hD hf
 have HCL:Hid (∀u,EnvX w u []→Calls Tryz.prog 178 #[.slice A n c] u fun e w'=>(∃v,e= .returned v∧w'.ownsRow u.heap.size 77 2 v n (l.map txC).flatten)∧Below u.heap.size u w'):=fun u hu=>vcloneX l A n c u hl hn (hA.up (EnvX.bel hu))
 have HCI:Hid (∀(u:World)(x:TxM),EnvX w u []→TxOk w x→bigX x.r→Calls Tryz.prog 152 #[.slice x.A1 x.n1 x.c1] u fun e w'=>(∃v,e= .returned v∧w'.ownsRow u.heap.size 133 33 v x.n1 (x.r.ins.map inC).flatten)∧Below u.heap.size u w'):=fun u x hu hx hf=>vcloneI x.r.ins x.A1 x.n1 x.c1 u hx.l1 (by have:=hf.1;rw[hx.l1]at this;exact this) hx.o1 (hx.up (EnvX.bel hu)).m1
 have HCO:Hid (∀(u:World)(x:TxM),EnvX w u []→TxOk w x→bigX x.r→Calls Tryz.prog 153 #[.slice x.A2 x.n2 x.c2] u fun e w'=>(∃v,e= .returned v∧w'.ownsRow u.heap.size 135 2 v x.n2 (x.r.outs.map outC).flatten)∧Below u.heap.size u w'):=fun u x hu hx hf=>vcloneO x.r.outs x.A2 x.n2 x.c2 u hx.l2 (by have:=hf.2;rw[hx.l2]at this;exact this) (hx.up (EnvX.bel hu)).m2
 have E1:Hid (EnvX w w []):=EnvX.start w
 clear hl hn hA hf
 go_enter func125,ntmps125
 go_upto_region 1 with (fail)
 refine rgQ [0] [1,2] E1 rfl fun hw=>?_
 refine qo rfl hw ?_
 refine wpG_nil<|qr rfl func178 (fun u hu=>callsR_fresh (HCL.out u (nl hu))) ?_
 rintro x N1 hF hf he2
 obtain⟨A1,c1,rfl,k1,k2⟩:=FreshR.formR hF
 have HF:=hD hF
 have HC1:=hD (And.intro k1 k2)
 have HNB:Hid (∀y∈N1,w.heap.size≤y.1):=fun y hy=>(hf y hy).1
 clear hF k1 k2
 clear hf
 refine phE [2] [] he2 fun hw=>?_
 refine qo rfl hw ?_
 refine enP fun u5 EX4=>?_
 go_upto_region 2 with (fail)
 refine rgQ [0,1,2] [] EX4 rfl fun hw=>?_
 refine qo rfl hw ?_
 refine qv rfl (fun u hu=>len_op underlying23 HN63.out u rfl) hw ?_
 refine qo rfl hw ?_
 refine enP fun u8 EX7=>?_
 have HST:Hid (∃q Nx N,q.length=n∧FreshR 77 2 n (q.map txC).flatten (.slice A1 n c1) Nx∧(∀y∈Nx,w.heap.size≤y.1)∧(∀y∈N,w.heap.size≤y.1∧ ∀z∈Nx,y.1≠z.1)∧CopN l q 0 N∧EnvX w u8 (Nx++N)):=
  ⟨l,N1,[],HL.out,HF.out,HNB.out,(fun y hy=>by cases hy),⟨fun j hj=>absurd hj (Nat.not_lt_zero j),fun j _=>rfl⟩,EX7.out⟩
 clear EX7 E1 HF HNB HCL
 go_upto_region 3 with (fail)
 go_loopw [10] (fun iv u=> ∃i:Nat,i≤n∧iv= .int .i64 (i:Int)∧Hid (∃q Nx N,q.length=n∧FreshR 77 2 n (q.map txC).flatten (.slice A1 n c1) Nx∧(∀y∈Nx,w.heap.size≤y.1)∧(∀y∈N,w.heap.size≤y.1∧ ∀z∈Nx,y.1≠z.1)∧CopN l q i N∧EnvX w u (Nx++N))) (fun iv _=>n- (intOf iv).toNat)
 case atStart=>exact⟨0,by omega,rfl,HST⟩
 case round=>
  obtain⟨i,hi,rfl,hinv⟩:=hrel
  obtain⟨q,Nx,N,hq,hF,hB,hN,hCP,hE⟩:=hinv.out
  have EK:=hD hE
  have HCP:=hD hCP
  have HNN:=hD hN
  clear hinv HST hE hCP
  by_cases hlt:i<n
  · have C2:Hid (decide ((i:Int)<(n:Int))=true):=decide_eq_true (by omega)
    rcases hF with ⟨g,cap,cs,e1,rfl,hnc,hcm,hsz,hxs⟩|⟨_,_,h0,_⟩
    case inr=>exact absurd hlt (by rw[h0];exact Nat.not_lt_zero _)
    cases e1
    have HR:Hid (RowX n c1 q cs):=⟨hq,hsz,hxs⟩
    have HG:Hid (w.heap.size≤g):=hB _ (mS.2 rfl)
    have HNG:Hid (∀y∈N,y.1≠g):=fun y hy=>(HNN.out y hy).2 _ (mS.2 rfl)
    have HI:=hD hlt
    have hil:i<l.length:=by rw[HL.out];exact hlt
    have hiq:i<q.length:=by rw[hq];exact hlt
    have HIQ:=hD hiq
    have HTX:Hid (TxOk w (l.getD i noTxM)):=HAA.out.get hil
    have HFX:Hid (bigX (l.getD i noTxM).r):=HFW.out _ (by rw[gD,gE hil];exact List.getElem_mem hil)
    have hqi:q.getD i noTxM=l.getD i noTxM:=HCP.out.2 i (Nat.le_refl _)
    have hgt:=HR.out.get hlt
    rw[hqi]at hgt
    obtain⟨x,hx⟩: ∃x,l.getD i noTxM=x:=⟨_,rfl⟩
    rw[hx]at HTX HFX hgt
    have HX:=hD hx
    have HGT:=hD hgt
    have HRM:Hid (0+i*2+2≤cs.size):=HR.out.room hlt hnc
    have HCIx:Hid (∀u,EnvX w u []→Calls Tryz.prog 152 #[.slice x.A1 x.n1 x.c1] u fun e w'=>(∃v,e= .returned v∧w'.ownsRow u.heap.size 133 33 v x.n1 (x.r.ins.map inC).flatten)∧Below u.heap.size u w'):=fun u hu=>HCI.out u x hu HTX.out HFX.out
    have HCOx:Hid (∀u,EnvX w u []→Calls Tryz.prog 153 #[.slice x.A2 x.n2 x.c2] u fun e w'=>(∃v,e= .returned v∧w'.ownsRow u.heap.size 135 2 v x.n2 (x.r.outs.map outC).flatten)∧Below u.heap.size u w'):=fun u hu=>HCO.out u x hu HTX.out HFX.out
    clear hq hB hN hnc hcm hsz hxs hlt hil hiq hqi hgt hx
    go_upto_region 3 with (fail)
    refine rgQ [0] [] EK rfl fun hw=>?_
    refine qv rfl (fun u hu=>ltZ_op u C2.out rfl rfl) hw ?_
    refine enP fun u23 EX22=>?_
    go_upto_region 4 with (fail)
    refine rgQ [0,1,2] [3,4,5] EX22 rfl fun hw=>?_
    refine qo rfl hw ?_
    refine qv (v:= .pointer (some ⟨g,0+i*2,none⟩)) rfl (fun u hu=>idxSl0_op underlying23 aggTx.size HI.out u rfl rfl) hw ?_
    refine qv rfl (fun u hu=>load_any_op u (box_agg aggTx (k:=0+i*2) hu mH (txC x) rfl HGT.out) rfl) hw ?_
    refine wpG_nil<|qn rfl (new_tx _) fun g5 HG5 he25=>?_
    refine phE [4] [5] he25 fun hw=>?_
    refine qo rfl hw ?_
    refine wpG_nil<|(sh rfl HG5 (infoTx _ (txA_size _)) ((txA_size _).trans (txA_size _).symm) (txA_one _) ?_)
    refine fun _=>enL fun u29 EX28=>?_
    have HG5G:Hid (g5≠g):=fun h=>HG5.out.2 (g,oc cs 77) mH h.symm
    go_upto_region 5 with (fail)
    refine rgK [0,1,2,3,5,6] 5 EX28 rfl fun hw=>?_
    refine qw 3 hw ?_
    refine ql rfl mH trivial hw ?_
    refine qf rfl hw ?_
    refine ql rfl mH trivial hw ?_
    refine wpG_nil<|aO 4 (qr rfl func152 (fun u hu=>callsR_fresh (HCIx.out u (nl hu))) ?_)
    rintro x9 N4 hF hf he31
    obtain⟨A4,c4,rfl,k1,k2⟩:=FreshR.formR hF
    have HF4:=hD (And.intro hF (And.intro k1 k2))
    have HN4:Hid (∀y∈N4,w.heap.size≤y.1∧y.1≠g):=fun y hy=>⟨(hf y hy).1,fun h=>(hf y hy).2 _ (mT mH) h.symm⟩
    clear hF k1 k2
    clear hf
    change anyH _ _ _ _ _ _ _ _ (N4++((g5,oc (txA x) 77)::((g,oc cs 77)::N)))
    refine aO 7 (qr rfl func153 (fun u hu=>callsR_fresh (HCOx.out u (nl hu))) ?_)
    rintro x9 N7 hF hf he32
    obtain⟨A7,c7,rfl,k1,k2⟩:=FreshR.formR hF
    have HF7:=hD (And.intro hF (And.intro k1 k2))
    have HN7:Hid (∀y∈N7,w.heap.size≤y.1∧y.1≠g):=fun y hy=>⟨(hf y hy).1,fun h=>(hf y hy).2 _ (mR (mT mH)) h.symm⟩
    clear hF k1 k2
    have HMM:Hid (∀y∈N7++(N4++((g5,oc (txA x) 77)::N)),y∈N7++(N4++((g5,oc (txA x) 77)::((g,oc cs 77)::N)))∧y.1≠g):=fun y hy=>by
     rcases List.mem_append.1 hy with h|hy
     · exact⟨mL h,(HN7.out y h).2⟩
     rcases List.mem_append.1 hy with h|hy
     · exact⟨mR (mL h),(HN4.out y h).2⟩
     rcases List.mem_cons.1 hy with h|h
     · exact⟨mR (mR (by rw[h];exact mH)),by rw[h];exact HG5G.out⟩
     · exact⟨mR (mR (mT (mT h))),HNG.out y h⟩
    clear hf
    refine phF [8,9] 1 rfl he32 fun hw=>?_
    refine qv (v:= .agg (txA ⟨x.r,A4,x.n1,c4,A7,x.n2,c7⟩)) rfl (fun u hu=>buildA_op u (built_tx x.r A4 x.n1 c4 A7 x.n2 c7)) hw ?_
    refine qv (v:= .pointer (some ⟨g,0+i*2,none⟩)) rfl (fun u hu=>idxSl0_op underlying23 aggTx.size HI.out u rfl rfl) hw ?_
    refine wpG_nil<|aO 10 (hOp_putAt rfl (g) (0+i*2) (.agg (txA ⟨x.r,A4,x.n1,c4,A7,x.n2,c7⟩)) rfl rfl HG.out 77 (cs) (setX cs (0+i*2) ⟨x.r,A4,x.n1,c4,A7,x.n2,c7⟩) (mR (mR (mT mH))) (tx_put HRM.out ⟨x.r,A4,x.n1,c4,A7,x.n2,c7⟩).1 (tx_put HRM.out ⟨x.r,A4,x.n1,c4,A7,x.n2,c7⟩).2.1 (tx_put HRM.out ⟨x.r,A4,x.n1,c4,A7,x.n2,c7⟩).2.2.1 (tx_put HRM.out ⟨x.r,A4,x.n1,c4,A7,x.n2,c7⟩).2.2.2 ((g,oc (setX cs (0+i*2) ⟨x.r,A4,x.n1,c4,A7,x.n2,c7⟩) 77)::(N7++(N4++((g5,oc (txA x) 77)::N)))) (mA ⟨.inl rfl,fun y hy=> .inr (HMM.out y hy)⟩) ?_)
    intro he34
    refine eM fun u36 EX35=>?_
    have HK7:Hid (KeptA (N7++(N4++((g5,oc (txA x) 77)::N))) (fun u=>TxOk u ⟨x.r,A4,x.n1,c4,A7,x.n2,c7⟩)):=kept_tx HTX.out HF4.out HF7.out (fun y hy=>mR (mL hy)) (fun y hy=>mL hy)
    have HCS:Hid (CopN l (q.set i ⟨x.r,A4,x.n1,c4,A7,x.n2,c7⟩) (i+1) (N7++(N4++((g5,oc (txA x) 77)::N)))):=HCP.out.step HIQ.out (by rw[HX.out]) HK7.out (fun y hy=>mR (mR (mT hy)))
    have HRS:=hD (HR.out.set HI.out HC1.out.1 ⟨x.r,A4,x.n1,c4,A7,x.n2,c7⟩)
    have HLO:Hid (∀y∈N7++(N4++((g5,oc (txA x) 77)::N)),w.heap.size≤y.1):=fun y hy=>by
     rcases List.mem_append.1 hy with h|hy
     · exact(HN7.out y h).1
     rcases List.mem_append.1 hy with h|hy
     · exact(HN4.out y h).1
     rcases List.mem_cons.1 hy with h|h
     · rw[h];exact HG5.out.1
     · exact(HNN.out y h).1
    have HNX:Hid (∃q Nx N,q.length=n∧FreshR 77 2 n (q.map txC).flatten (.slice (some ⟨g,0,none⟩) n c1) Nx∧(∀y∈Nx,w.heap.size≤y.1)∧(∀y∈N,w.heap.size≤y.1∧ ∀z∈Nx,y.1≠z.1)∧CopN l q (i+1) N∧EnvX w u36 (Nx++N)):=
     ⟨_,[(g,oc (setX cs (0+i*2) ⟨x.r,A4,x.n1,c4,A7,x.n2,c7⟩) 77)],_,HRS.out.1, .inl ⟨g,c1,_,rfl,rfl,HC1.out.1,HC1.out.2,HRS.out.2.1,HRS.out.2.2⟩,(fun y hy=>by cases mS.1 hy;exact HG.out),(fun y hy=>⟨HLO.out y hy,fun z hz=>by cases mS.1 hz;exact(HMM.out y hy).2⟩),HCS.out,EX35.out⟩
    have hii:=HI.out
    have hn:=HN63.out
    go_wp2
    go_roundw
    case rel=>exact⟨i+1,by omega,by go_num,HNX⟩
    case measure=>simp[intOf];omega
  · obtain rfl:i=n:=by omega
    have C2:Hid (decide ((i:Int)<(i:Int))=false):=decide_eq_false (by omega)
    have HD:=hD (HCP.out.done HL.out hq)
    have HFF:=hD hF
    have HBB:=hD hB
    have HQ:=hD hq
    clear hF hB hN hq
    go_upto_region 3 with (fail)
    refine rgQ [0] [] EK rfl fun hw=>?_
    refine qv rfl (fun u hu=>ltZ_op u C2.out rfl rfl) hw ?_
    refine enP fun u303 EX302=>?_
    go_upto_region 7 with (fail)
    refine rgQ [0,1] [] EX302 rfl fun hw=>?_
    refine qw 2 hw ?_
    refine enP fun u306 EX305=>?_
    have HBE:=hD (EnvX.bel EX305.out)
    have HBX:=hD (fun(y:Nat × Obj)(hy:y∈Nx++N)=>EnvX.box EX305.out _ _ hy)
    have HRX:Hid (RTxs l i (.slice A1 i c1) (Nx++N)):=⟨q,A1,c1,rfl,HC1.out.1,HC1.out.2,HQ.out,HD.out.1,fun w0 u M hu hM=>⟨kept_cells HFF.out (by rw[(rowsTx q).flat_len,lM,HQ.out]) w0 u M hu (fun y hy=>hM y (mL hy)),fun t ht=>(HD.out.2 t ht) w0 u M hu (fun y hy=>hM y (mR hy))⟩⟩
    go_wp2
    go_returns
    exact⟨_,_,rfl,HRX.out,HBE.out,fun y hy=>⟨(List.mem_append.1 hy).elim (fun h=>HBB.out y h) (fun h=>(HNN.out y h).1),HBX.out y hy⟩⟩
theorem vcopyBlock(b:BlkM)(w:World)(kb:BlkOk w b)(mb:midBlk b):Hands 79 #[blkV b] w (RBlk b.r):=by
 unfold Hands
 have HOB:Hid (okHd b.h):=kb.h
 have HLE:Hid (w.heap.size≤w.heap.size+1):=by show _≤_;omega
 have HNB:Hid (lenH noBlkM.h):=len_no
 have l1:=kb.l1
 have m1:=mb.1
 have l2:=kb.l2
 have m2:=mb.2.1
 have HIL:=hD (And.intro kb.l1 kb.o1)
 have HCL:Hid (∀u,EnvX w u []→Calls Tryz.prog 97 #[.slice b.A1 b.n1 b.c1] u fun e w'=>(∃v,e= .returned v∧w'.ownsRow u.heap.size 26 32 v b.n1 ((b.l).flatten.map u8v))∧Below u.heap.size u w'):=fun u hu=>by have h:=lclone_any b.l b.A1 b.n1 b.c1 u kb.l1 (by omega) kb.o1 (kb.m1.up (EnvX.bel hu));unfold OwnI at h;rw[kb.l1]at h;exact h
 have HCX:Hid (∀u,EnvX w u []→Hands 125 #[.slice b.A2 b.n2 b.c2] u (RTxs b.t b.n2)):=fun u hu=>vcopyTxs b.t b.A2 b.n2 b.c2 u kb.l2 (by omega) (kb.m2.up (EnvX.bel hu)) mb.2.2
 have E1:Hid (EnvX w ((w.alloc (.cells (blkA b) 37)).alloc (.cells (blkA noBlkM) 37)) [(w.heap.size+1,oc (blkA noBlkM) 37),(w.heap.size,oc (blkA b) 37)]):=(EnvX.start w).two _ _
 clear kb mb l1 m1 l2 m2
 unfold blkV
 go_enter func79,ntmps79
 go_upto_region 1 with (fail)
 rw[←zero_blkA]
 generalize (w.alloc (.cells (blkA b) 37)).alloc (.cells (blkA noBlkM) 37)=W at *
 refine rgK [0,1,2,3,5,6] 4 E1 rfl fun hw=>?_
 refine qf rfl hw ?_
 refine qv rfl (fun u hu=>load_any_op u (loads_hd HOB.out.len (box_blk_hd hu (mT mH) HOB.out.len)).1 rfl) hw ?_
 refine qf rfl hw ?_
 refine ql rfl (mT mH) HOB.out.len hw ?_
 refine qf rfl hw ?_
 refine ql rfl (mT mH) HOB.out.len hw ?_
 refine wpG_nil<|aO 4 (qr rfl func97 (fun u hu=>callsR_fresh (HCL.out u (nl hu))) ?_)
 rintro x N4 hF hf he2
 obtain⟨A4,c4,rfl,k1,k2⟩:=FreshR.formR hF
 have HF4:=hD (And.intro hF (And.intro k1 k2))
 have HN4:Hid (∀y∈N4,w.heap.size≤y.1∧y.1≠w.heap.size+1):=fun y hy=>⟨(hf y hy).1,fun h=>(hf y hy).2 _ mH h.symm⟩
 clear hF k1 k2
 clear hf
 change anyH _ _ _ _ _ _ _ _ (N4++((w.heap.size+1,oc (blkA noBlkM) 37)::((w.heap.size,oc (blkA b) 37)::[])))
 refine aO 7 (qr rfl func125 (fun u hu=>HCX.out u (nl hu)) ?_)
 rintro x N7 hF hf he3
 obtain⟨q7,A7,c7,rfl,k1,k2,kq,kr,kk⟩:=hF
 have HK1:=hD k1
 have HK2:=hD k2
 have HKQ:=hD kq
 have HKR:=hD kr
 have HKK:=hD kk
 have HN7:Hid (∀y∈N7,w.heap.size≤y.1∧y.1≠w.heap.size+1):=fun y hy=>⟨(hf y hy).1,fun h=>(hf y hy).2 _ (mR mH) h.symm⟩
 clear k1 k2 kq kr kk
 clear hf
 refine phF [8] 1 rfl he3 fun hw=>?_
 refine qv (v:= .agg (blkA ⟨b.h,b.l,A4,b.n1,c4,q7,A7,b.n2,c7⟩)) rfl (fun u hu=>buildA_op u (built_blk (b:=⟨b.h,b.l,A4,b.n1,c4,q7,A7,b.n2,c7⟩) HOB.out.len)) hw ?_
 refine wpG_nil<|aO 9 (hOp_store rfl (w.heap.size+1) (blkA ⟨b.h,b.l,A4,b.n1,c4,q7,A7,b.n2,c7⟩) rfl rfl HLE.out 37 ((blkA noBlkM)) (mR (mR mH)) (infoBlk _ (blkA_size (b:=⟨b.h,b.l,A4,b.n1,c4,q7,A7,b.n2,c7⟩) HOB.out.len)) (blk_sizes (b:=⟨b.h,b.l,A4,b.n1,c4,q7,A7,b.n2,c7⟩) HOB.out.len) (blkA_one _) ((w.heap.size+1,oc (blkA ⟨b.h,b.l,A4,b.n1,c4,q7,A7,b.n2,c7⟩) 37)::(N7++(N4++[]))) (mA ⟨.inl rfl,fun y hy=> .inr ((List.mem_append.1 hy).elim (fun h=>⟨mL h,(HN7.out y h).2⟩) (fun h=>⟨mR (mL (by simpa using h)),(HN4.out y (by simpa using h)).2⟩))⟩) ?_)
 intro he5
 refine eM fun u7 EX6=>?_
 have HIS:Hid (∀w0 u M,EnvX w0 u M→(∀y∈N7++N4,y∈M)→IsBlk b.r ⟨b.h,b.l,A4,b.n1,c4,q7,A7,b.n2,c7⟩ u):=fun w0 u M hu hM=>⟨by show BlkR.mk b.h b.l (rsT q7)=BlkR.mk b.h b.l (rsT b.t);rw[HKR.out],⟨HOB.out,HIL.out.1,HF4.out.2,HIL.out.2,kept_ids HF4.out.1 HIL.out.1 HIL.out.2 w0 u M hu (fun y hy=>hM y (mR hy)),HKQ.out,⟨HK1.out,HK2.out⟩,HKK.out w0 u M hu (fun y hy=>hM y (mL hy))⟩⟩
 have HBX:Hid (∀y∈N7++N4,y∈((w.heap.size+1,oc (blkA ⟨b.h,b.l,A4,b.n1,c4,q7,A7,b.n2,c7⟩) 37)::(N7++(N4++[])))):=fun y hy=>mT (by simpa using hy)
 have HEX:=hD EX6.out
 have HFR:Hid (∀y∈N7++N4,w.heap.size≤y.1∧u7.heap[y.1]?=some y.2):=fun y hy=>⟨(List.mem_append.1 hy).elim (fun h=>(HN7.out y h).1) (fun h=>(HN4.out y h).1),EnvX.box HEX.out _ _ (HBX.out y hy)⟩
 have Q0:=hD (EnvX.box EX6.out _ _ mH)
 have HBEL:=hD EX6.out.bel
 go_wp2_with ((with_reducible refine bodyPost_ret (v:= .agg (blkA ⟨b.h,b.l,A4,b.n1,c4,q7,A7,b.n2,c7⟩)) ?_ ?_ ?_);(exact results_cell_row (p:=2) (ty:=37) results79 _ _ (w.heap.size+1) 37 (blkA ⟨b.h,b.l,A4,b.n1,c4,q7,A7,b.n2,c7⟩) (0,0) _ rfl Q0.out underlying37 rfl (infoBlk _ (blkA_size (b:=⟨b.h,b.l,A4,b.n1,c4,q7,A7,b.n2,c7⟩) HOB.out.len)));(rfl))
 first|exact⟨_,N7++N4,rfl,⟨⟨b.h,b.l,A4,b.n1,c4,q7,A7,b.n2,c7⟩,rfl,HIS.out,_,HIS.out _ _ _ HEX.out HBX.out⟩,HBEL.out,HFR.out⟩|exact⟨N7++N4,⟨⟨b.h,b.l,A4,b.n1,c4,q7,A7,b.n2,c7⟩,rfl,HIS.out,_,HIS.out _ _ _ HEX.out HBX.out⟩,HBEL.out,fun a b hy=>HFR.out (a,b) hy⟩
theorem vcopyTip(t:TipM)(w:World)(kt:TipOk w t)(mt:midTip t):Hands 77 #[tipV t] w (RTip t.r):=by
 unfold Hands
 have HLT:Hid (lenH t.b.h):=kt.b.h.len
 have HLE:Hid (w.heap.size≤w.heap.size+1):=by show _≤_;omega
 have l1:=kt.l3
 have m1:=mt.2.1
 have l2:=kt.l4
 have m2:=mt.2.2.1
 have HP:=hD (And.intro kt.l3 kt.o3)
 have HC:=hD (And.intro kt.l4 kt.o4)
 have HCB:Hid (∀u,EnvX w u []→Hands 79 #[blkV t.b] u (RBlk t.b.r)):=fun u hu=>vcopyBlock t.b u (kt.b.up (EnvX.bel hu)) ⟨mt.1,mt.2.2.2⟩
 have HCP:Hid (∀u,EnvX w u []→Calls Tryz.prog 64 #[.slice t.A3 t.n3 t.c3] u fun e w'=>(∃v,e= .returned v∧w'.ownsRow u.heap.size 61 37 v t.n3 ((t.p.map totC).flatten))∧Below u.heap.size u w'):=fun u hu=>mclone_any t.p t.A3 t.n3 t.c3 u kt.l3 (by omega) kt.o3 (CellsIn.up kt.m3 (EnvX.bel hu))
 have HCC:Hid (∀u,EnvX w u []→Calls Tryz.prog 131 #[.slice t.A4 t.n4 t.c4] u fun e w'=>(∃v,e= .returned v∧w'.ownsRow u.heap.size 137 35 v t.n4 ((t.c.map coC).flatten))∧Below u.heap.size u w'):=fun u hu=>pclone_any t.c t.A4 t.n4 t.c4 u kt.l4 (by omega) kt.o4 (CellsIn.up kt.m4 (EnvX.bel hu))
 have E1:Hid (EnvX w ((w.alloc (.cells (tipA t) 41)).alloc (.cells (tipA noTipM) 41)) [(w.heap.size+1,oc (tipA noTipM) 41),(w.heap.size,oc (tipA t) 41)]):=(EnvX.start w).two _ _
 clear kt mt l1 m1 l2 m2
 unfold tipV
 go_enter func77,ntmps77
 go_upto_region 1 with (fail)
 rw[←zero_tipA]
 generalize (w.alloc (.cells (tipA t) 41)).alloc (.cells (tipA noTipM) 41)=W at *
 refine rgK [0,1,3,4,6,7] 5 E1 rfl fun hw=>?_
 refine qf rfl hw ?_
 refine ql rfl (mT mH) HLT.out hw ?_
 refine qf rfl hw ?_
 refine ql rfl (mT mH) HLT.out hw ?_
 refine qf rfl hw ?_
 refine ql rfl (mT mH) HLT.out hw ?_
 refine wpG_nil<|aO 2 (qr rfl func79 (fun u hu=>HCB.out u (nl hu)) ?_)
 rintro x N2 hF hf he2
 obtain⟨b2,rfl,kk,kv⟩:=hF
 have HKK:=hD kk
 have HKV:=hD kv
 have HN2:Hid (∀y∈N2,w.heap.size≤y.1∧y.1≠w.heap.size+1):=fun y hy=>⟨(hf y hy).1,fun h=>(hf y hy).2 _ mH h.symm⟩
 clear kk kv
 have HLB:Hid (lenH b2.h):=by obtain⟨v,hv⟩:=HKV.out;exact hv.2.h.len
 clear hf
 change anyH _ _ _ _ _ _ _ _ (N2++((w.heap.size+1,oc (tipA noTipM) 41)::((w.heap.size,oc (tipA t) 41)::[])))
 refine aO 5 (qr rfl func64 (fun u hu=>callsR_fresh (HCP.out u (nl hu))) ?_)
 rintro x N5 hF hf he3
 obtain⟨A5,c5,rfl,k1,k2⟩:=FreshR.formR hF
 have HF5:=hD (And.intro hF (And.intro k1 k2))
 have HN5:Hid (∀y∈N5,w.heap.size≤y.1∧y.1≠w.heap.size+1):=fun y hy=>⟨(hf y hy).1,fun h=>(hf y hy).2 _ (mR mH) h.symm⟩
 clear hF k1 k2
 clear hf
 change anyH _ _ _ _ _ _ _ _ (N5++(N2++((w.heap.size+1,oc (tipA noTipM) 41)::((w.heap.size,oc (tipA t) 41)::[]))))
 refine aO 8 (qr rfl func131 (fun u hu=>callsR_fresh (HCC.out u (nl hu))) ?_)
 rintro x N8 hF hf he4
 obtain⟨A8,c8,rfl,k1,k2⟩:=FreshR.formR hF
 have HF8:=hD (And.intro hF (And.intro k1 k2))
 have HN8:Hid (∀y∈N8,w.heap.size≤y.1∧y.1≠w.heap.size+1):=fun y hy=>⟨(hf y hy).1,fun h=>(hf y hy).2 _ (mR (mR mH)) h.symm⟩
 clear hF k1 k2
 clear hf
 refine phF [9] 1 rfl he4 fun hw=>?_
 refine qv (v:= .agg (tipA ⟨b2,t.p,A5,t.n3,c5,t.c,A8,t.n4,c8⟩)) rfl (fun u hu=>buildA_op u (built_tip (t:=⟨b2,t.p,A5,t.n3,c5,t.c,A8,t.n4,c8⟩) HLB.out)) hw ?_
 refine wpG_nil<|aO 10 (hOp_store rfl (w.heap.size+1) (tipA ⟨b2,t.p,A5,t.n3,c5,t.c,A8,t.n4,c8⟩) rfl rfl HLE.out 41 ((tipA noTipM)) (mR (mR (mR mH))) (infoTip _ (tipA_size (t:=⟨b2,t.p,A5,t.n3,c5,t.c,A8,t.n4,c8⟩) HLB.out)) (tip_sizes (t:=⟨b2,t.p,A5,t.n3,c5,t.c,A8,t.n4,c8⟩) HLB.out) (tipA_one _) ((w.heap.size+1,oc (tipA ⟨b2,t.p,A5,t.n3,c5,t.c,A8,t.n4,c8⟩) 41)::(N8++(N5++(N2++[])))) (mA ⟨.inl rfl,fun y hy=> .inr ((List.mem_append.1 hy).elim (fun h=>⟨mL h,(HN8.out y h).2⟩) (fun hy=>(List.mem_append.1 hy).elim (fun h=>⟨mR (mL h),(HN5.out y h).2⟩) (fun h=>⟨mR (mR (mL (by simpa using h))),(HN2.out y (by simpa using h)).2⟩)))⟩) ?_)
 intro he6
 refine eM fun u8 EX7=>?_
 have HIS:Hid (∀w0 u M,EnvX w0 u M→(∀y∈N8++(N5++N2),y∈M)→IsTip t.r ⟨b2,t.p,A5,t.n3,c5,t.c,A8,t.n4,c8⟩ u):=fun w0 u M hu hM=>by
  have hb:=HKK.out w0 u M hu (fun y hy=>hM y (mR (mR hy)))
  exact⟨by show TipR.mk b2.r t.p t.c=TipR.mk t.b.r t.p t.c;rw[hb.1],⟨hb.2,HP.out.1,HF5.out.2,HP.out.2,kept_tots HF5.out.1 HP.out.1 HP.out.2 w0 u M hu (fun y hy=>hM y (mR (mL hy))),HC.out.1,HF8.out.2,HC.out.2,kept_cells HF8.out.1 (by rw[flat35 HC.out.2.lens,HC.out.1]) w0 u M hu (fun y hy=>hM y (mL hy))⟩⟩
 have HBX:Hid (∀y∈N8++(N5++N2),y∈((w.heap.size+1,oc (tipA ⟨b2,t.p,A5,t.n3,c5,t.c,A8,t.n4,c8⟩) 41)::(N8++(N5++(N2++[]))))):=fun y hy=>mT (by simpa using hy)
 have HEX:=hD EX7.out
 have HFR:Hid (∀y∈N8++(N5++N2),w.heap.size≤y.1∧u8.heap[y.1]?=some y.2):=fun y hy=>⟨(List.mem_append.1 hy).elim (fun h=>(HN8.out y h).1) (fun hy=>(List.mem_append.1 hy).elim (fun h=>(HN5.out y h).1) (fun h=>(HN2.out y h).1)),EnvX.box HEX.out _ _ (HBX.out y hy)⟩
 have Q0:=hD (EnvX.box EX7.out _ _ mH)
 have HBEL:=hD EX7.out.bel
 go_wp2_with ((with_reducible refine bodyPost_ret (v:= .agg (tipA ⟨b2,t.p,A5,t.n3,c5,t.c,A8,t.n4,c8⟩)) ?_ ?_ ?_);(exact results_cell_row (p:=2) (ty:=41) results77 _ _ (w.heap.size+1) 41 (tipA ⟨b2,t.p,A5,t.n3,c5,t.c,A8,t.n4,c8⟩) (0,0) _ rfl Q0.out underlying41 rfl (infoTip _ (tipA_size (t:=⟨b2,t.p,A5,t.n3,c5,t.c,A8,t.n4,c8⟩) HLB.out)));(rfl))
 first|exact⟨_,N8++(N5++N2),rfl,⟨⟨b2,t.p,A5,t.n3,c5,t.c,A8,t.n4,c8⟩,rfl,HIS.out,_,HIS.out _ _ _ HEX.out HBX.out⟩,HBEL.out,HFR.out⟩|exact⟨N8++(N5++N2),⟨⟨b2,t.p,A5,t.n3,c5,t.c,A8,t.n4,c8⟩,rfl,HIS.out,_,HIS.out _ _ _ HEX.out HBX.out⟩,HBEL.out,fun a b hy=>HFR.out (a,b) hy⟩
theorem mayh_any(k:Int)(w:World):
   Rz 73 #[.int .i64 k] w (.bool (decide (0≤k∧k≤1048576))):=by
 unfold Rz
 by_cases h0:0≤k
 · by_cases h1:k≤1048576
   · go_enter func73,ntmps73
     go_wp2
     go_ret
     exact⟨by simp[h0,h1],Below.refl _ _⟩
   · go_enter func73,ntmps73
     go_wp2
     go_ret
     exact⟨by simp[h1],Below.refl _ _⟩
 · go_enter func73,ntmps73
   go_wp2
   go_ret
   exact⟨by simp;omega,Below.refl _ _⟩
section
variable {a:Act}{dst:Option Tmp}{x0 x1 x2 x3 x4 x5 x6 x7:Operand}{ty:TypeId}{pos:String}{after:Array Edge}{gd:Option (Nat × Bool)}
def row8(A0 A1 A2 A3 A4 A5 A6 A7:Option Addr)(n0 c0 n1 c1 n2 c2 n3 c3 n4 c4 n5 c5 n6 c6 n7 c7:Nat):Array Value:= #[.slice A0 n0 c0, .slice A1 n1 c1, .slice A2 n2 c2, .slice A3 n3 c3, .slice A4 n4 c4, .slice A5 n5 c5, .slice A6 n6 c6, .slice A7 n7 c7]
theorem FAt_rows8{A0 A1 A2 A3 A4 A5 A6 A7:Option Addr}{n0 c0 n1 c1 n2 c2 n3 c3 n4 c4 n5 c5 n6 c6 n7 c7:Nat}(h0:a.eval x0= .slice A0 n0 c0)(h1:a.eval x1= .slice A1 n1 c1)(h2:a.eval x2= .slice A2 n2 c2)(h3:a.eval x3= .slice A3 n3 c3)(h4:a.eval x4= .slice A4 n4 c4)(h5:a.eval x5= .slice A5 n5 c5)(h6:a.eval x6= .slice A6 n6 c6)(h7:a.eval x7= .slice A7 n7 c7)(u:World):
  FAt Tryz.prog ⟨dst, .buildSlice 139 8 #[(0,x0),(1,x1),(2,x2),(3,x3),(4,x4),(5,x5),(6,x6),(7,x7)],ty,pos,after,gd⟩ a (fun v N=> ∃g,v= .slice (some ⟨g,0,none⟩) 8 8∧N=[(g,oc (row8 A0 A1 A2 A3 A4 A5 A6 A7 n0 c0 n1 c1 n2 c2 n3 c3 n4 c4 n5 c5 n6 c6 n7 c7) 100)]) u:=by
 have h:(execOp a.eval ⟨dst, .buildSlice 139 8 #[(0,x0),(1,x1),(2,x2),(3,x3),(4,x4),(5,x5),(6,x6),(7,x7)],ty,pos,after,gd⟩).run Tryz.prog u= .ok (.value (.slice (some ⟨u.heap.size,0,none⟩) 8 8)) (u.alloc (.cells (row8 A0 A1 A2 A3 A4 A5 A6 A7 n0 c0 n1 c1 n2 c2 n3 c3 n4 c4 n5 c5 n6 c6 n7 c7) 100)):=by
  unfold execOp row8
  simp only[List.map_toArray,List.map_cons,List.map_nil,h0,h1,h2,h3,h4,h5,h6,h7]
  go_simp
 unfold FAt
 rw[h]
 refine⟨(Below.refl _ _).alloc (Nat.le_refl _) _,_,⟨_,rfl,rfl⟩,fun y hy=>?_⟩
 cases mS.1 hy
 exact⟨Nat.le_refl _,heap_alloc_new u _⟩
end
theorem hput_no(h:Hd)(w:World)(hh:okHd h)(k:mayPut h=false):
  Calls Tryz.prog 67 #[hdV h] w fun e w'=>(∃v,e= .returned (.tuple #[v, .bool (putH h).2])∧OwnB w' w.heap.size v (putH h).1)∧Below w.heap.size w w':=by
 have hp:putH h=([],false):=by unfold putH;rw[if_neg (by rw[k];exact Bool.noConfusion)]
 rw[hp]
 have E1:Hid (EnvX w (w.alloc (.cells (hdA h) 34)) [(w.heap.size,oc (hdA h) 34)]):=(EnvX.start w).new _
 have HMH:Hid (∀u,Calls Tryz.prog 73 #[.int .i64 h.height] u fun e w'=>e= .returned (.bool (mayPut h))∧Below u.heap.size u w'):=fun u=>mayh_any h.height u
 rw[k]at HMH
 clear hh k hp
 unfold hdV
 go_enter func67,ntmps67
 go_upto_region 1 with (fail)
 generalize w.alloc (.cells (hdA h) 34)=W at *
 refine rgQ [0,1,2,3] [] E1 rfl fun hw=>?_
 refine qo rfl hw ?_
 refine ql rfl mH trivial hw ?_
 refine qc rfl func73 (fun u hu=>HMH.out u) hw ?_
 refine qo rfl hw ?_
 refine enP fun u3 EX2=>?_
 have HBE:=hD (EnvX.bel EX2.out)
 go_wp2
 go_returns
 exact⟨⟨_,rfl,OwnB.nil _ _⟩,HBE.out⟩
theorem hput_yes(h:Hd)(w:World)(hh:okHd h)(k:mayPut h=true):
  Calls Tryz.prog 67 #[hdV h] w fun e w'=>(∃v,e= .returned (.tuple #[v, .bool (putH h).2])∧OwnB w' w.heap.size v (putH h).1)∧Below w.heap.size w w':=by
 have hp:putH h=(bodyH h,true):=by unfold putH;rw[if_pos k]
 rw[hp]
 have hm:0≤h.height∧h.height≤1048576:=of_decide_eq_true k
 have HL:=hD hh.len
 have HOK:=hD hh
 have HBL:=hD (And.intro (body_len hh) (body_byte hh))
 have HU:Hid (h.height.toNat<18446744073709551616∧IntKind.u64.wrap h.height=((h.height.toNat:Nat):Int)):=by
  rw[IntKind.wrap_u64]
  exact⟨by omega,by omega⟩
 have HN32:Hid (h.bits<18446744073709551616∧IntKind.u64.wrap (h.bits:Int)=((h.bits:Nat):Int)):=by
  have:=hh.2.2.2.2.2.2.1
  rw[IntKind.wrap_u64]
  exact⟨by omega,by omega⟩
 have HN64:Hid (h.nonce<18446744073709551616):=hh.2.2.2.2.2.2.2
 have HBY:Hid (∀u,Calls Tryz.prog 111 #[.agg (wcs h.work)] u fun e w'=>e= .returned (.agg (arrB 32 (bytesW h.work)))∧Below u.heap.size u w'):=fun u=>bytes_any h.work u
 have HPT:Hid (∀(n k:Nat),n<18446744073709551616→k≤8→ ∀u,Calls Tryz.prog 113 #[.int .u64 (n:Int), .int .i64 k] u fun e w'=>(∃v,e= .returned v∧OwnB w' u.heap.size v (putL n k))∧Below u.heap.size u w'):=fun n k hn hk u=>put_any n k u hn hk
 have HCC:Hid (∀u g,Parts u u.heap.size (some ⟨g,0,none⟩) [putL h.height.toNat 4,h.prev,h.links,h.txs,h.past,bytesW h.work,putL h.bits 4,putL h.nonce 8]→Calls Tryz.prog 112 #[.slice (some ⟨g,0,none⟩) 8 8] u fun e w'=>(∃v,e= .returned v∧w'.ownsRow u.heap.size 5 1 v 176 ((bodyH h).map u8v))∧Below u.heap.size u w'):=fun u g hP=>by
  have hf:([putL h.height.toNat 4,h.prev,h.links,h.txs,h.past,bytesW h.work,putL h.bits 4,putL h.nonce 8]:List (List Int)).flatten=bodyH h:=by simp[bodyH]
  have hl:=body_len hh
  have k:=concat_any (some ⟨g,0,none⟩) 8 8 _ u rfl hP (by omega) (by rw[hf,hl];omega) (by rw[hf,hl];omega)
  rw[hf]at k
  unfold OwnB at k
  rwa[hl]at k
 have HZ:Hid ((arrB 32 (bytesW h.work)).size=32):=arrB_size _ _ (by rw[bytesW_len];omega)
 have HSW:Hid (((arrB 32 (bytesW h.work)).toList.drop 0).take ((bytesW h.work).map u8v).length=(bytesW h.work).map u8v):=by
  show _=_
  rw[arrId_map (bytesW_len _),List.drop_zero,List.take_length]
 clear hm
 have E1:Hid (EnvX w (w.alloc (.cells (hdA h) 34)) [(w.heap.size,oc (hdA h) 34)]):=(EnvX.start w).new _
 have HMH:Hid (∀u,Calls Tryz.prog 73 #[.int .i64 h.height] u fun e w'=>e= .returned (.bool (mayPut h))∧Below u.heap.size u w'):=fun u=>mayh_any h.height u
 rw[k]at HMH
 clear hh k hp
 unfold hdV
 go_enter func67,ntmps67
 go_upto_region 1 with (fail)
 generalize w.alloc (.cells (hdA h) 34)=W at *
 refine rgQ [0,1,2,3] [] E1 rfl fun hw=>?_
 refine qo rfl hw ?_
 refine ql rfl mH trivial hw ?_
 refine qc rfl func73 (fun u hu=>HMH.out u) hw ?_
 refine qo rfl hw ?_
 refine enP fun u3 EX2=>?_
 go_upto_region 3 with (fail)
 refine rgQ [0,1,2] [3,4] EX2 rfl fun hw=>?_
 refine qo rfl hw ?_
 refine ql rfl mH HL.out hw ?_
 refine qc rfl func111 (fun u hu=>HBY.out u) hw ?_
 refine wpG_nil<|qn rfl (new_id _) fun gw HGW he5=>?_
 change lexH _ _ _ _ _ _ [(gw,oc (arrB 32 []) 26),(w.heap.size,oc (hdA h) 34)]
 refine(sh rfl HGW (info26 _ HZ.out) ((arrB_size _ _ (by simp)).trans HZ.out.symm) (arrB_one _ _) ?_)
 refine fun _=>enL fun u8 EX7=>?_
 go_upto_region 4 with (fail)
 refine rgK [0,1,2,4,5,6,7,8,9,10,11,12,13,14,15,17,18] 7 EX7 rfl fun hw=>?_
 refine qo rfl hw ?_
 refine ql rfl (mT mH) trivial hw ?_
 refine qv (v:= .int .u64 ((h.height.toNat:Nat):Int)) rfl (fun u hu=>conv_u64_op u HU.out.2 rfl) hw ?_
 refine qo rfl hw ?_
 refine qv (v:= .slice (some ⟨w.heap.size,1,none⟩) 32 32) rfl (fun u hu=>sliceArr_op u rfl) hw ?_
 refine qo rfl hw ?_
 refine qv (v:= .slice (some ⟨w.heap.size,33,none⟩) 32 32) rfl (fun u hu=>sliceArr_op u rfl) hw ?_
 refine qo rfl hw ?_
 refine qv (v:= .slice (some ⟨w.heap.size,65,none⟩) 32 32) rfl (fun u hu=>sliceArr_op u rfl) hw ?_
 refine qo rfl hw ?_
 refine qv (v:= .slice (some ⟨w.heap.size,97,none⟩) 32 32) rfl (fun u hu=>sliceArr_op u rfl) hw ?_
 refine qv (v:= .slice (some ⟨gw,0,none⟩) 32 32) rfl (fun u hu=>sliceArr_op u rfl) hw ?_
 refine qo rfl hw ?_
 refine ql rfl (mT mH) HL.out hw ?_
 refine qv (v:= .int .u64 ((h.bits:Nat):Int)) rfl (fun u hu=>conv32_op u HN32.out.2 rfl) hw ?_
 refine qo rfl hw ?_
 refine ql rfl (mT mH) HL.out hw ?_
 refine wpG_nil<|aO 3 (qr (R:=FreshR 5 1 4 ((putL h.height.toNat 4).map u8v)) rfl func113 (fun u hu=>by have h:=callsR_fresh (HPT.out h.height.toNat 4 HU.out.1 (by omega) u);rw[putL_len]at h;exact h) ?_)
 rintro x N hF hf he10
 obtain⟨g0,capg0,curg0,rfl,rfl,hcg0⟩|⟨_,_,h0,_⟩:=hF
 case inr=>cases h0
 have HCg0:=hD hcg0
 clear hcg0
 clear hf
 change anyH _ _ _ _ _ _ _ _ [(g0,oc curg0 5),(gw,oc (arrB 32 (bytesW h.work)) 26),(w.heap.size,oc (hdA h) 34)]
 refine aO 16 (qr (R:=FreshR 5 1 4 ((putL h.bits 4).map u8v)) rfl func113 (fun u hu=>by have h:=callsR_fresh (HPT.out h.bits 4 HN32.out.1 (by omega) u);rw[putL_len]at h;exact h) ?_)
 rintro x N hF hf he11
 obtain⟨gp,capgp,curgp,rfl,rfl,hcgp⟩|⟨_,_,h0,_⟩:=hF
 case inr=>cases h0
 have HCgp:=hD hcgp
 clear hcgp
 clear hf
 change anyH _ _ _ _ _ _ _ _ [(gp,oc curgp 5),(g0,oc curg0 5),(gw,oc (arrB 32 (bytesW h.work)) 26),(w.heap.size,oc (hdA h) 34)]
 refine aO 19 (qr (R:=FreshR 5 1 8 ((putL h.nonce 8).map u8v)) rfl func113 (fun u hu=>by have h:=callsR_fresh (HPT.out h.nonce 8 HN64.out (by omega) u);rw[putL_len]at h;exact h) ?_)
 rintro x N hF hf he12
 obtain⟨gq,capgq,curgq,rfl,rfl,hcgq⟩|⟨_,_,h0,_⟩:=hF
 case inr=>cases h0
 have HCgq:=hD hcgq
 clear hcgq
 clear hf
 change anyH _ _ _ _ _ _ _ _ [(gq,oc curgq 5),(gp,oc curgp 5),(g0,oc curg0 5),(gw,oc (arrB 32 (bytesW h.work)) 26),(w.heap.size,oc (hdA h) 34)]
 refine aO 20 (hOp_fresh (R:=fun v N=> ∃g,v= .slice (some ⟨g,0,none⟩) 8 8∧N=[(g,oc (row8 (some ⟨g0,0,none⟩) (some ⟨w.heap.size,1,none⟩) (some ⟨w.heap.size,33,none⟩) (some ⟨w.heap.size,65,none⟩) (some ⟨w.heap.size,97,none⟩) (some ⟨gw,0,none⟩) (some ⟨gp,0,none⟩) (some ⟨gq,0,none⟩) 4 capg0 32 32 32 32 32 32 32 32 32 32 4 capgp 8 capgq) 100)]) (M0:=[(gq,oc curgq 5),(gp,oc curgp 5),(g0,oc curg0 5),(gw,oc (arrB 32 (bytesW h.work)) 26),(w.heap.size,oc (hdA h) 34)]) rfl rfl (fun _ h=>h) (fun u hu=>FAt_rows8 rfl rfl rfl rfl rfl rfl rfl rfl u) ?_)
 rintro _ _ ⟨gr,rfl,rfl⟩ hf he13;intro K' hK';go_big_quiet_op;go_big_quiet_on
 clear hf
 change anyH _ _ _ _ _ _ _ _ [(gr,oc (row8 (some ⟨g0,0,none⟩) (some ⟨w.heap.size,1,none⟩) (some ⟨w.heap.size,33,none⟩) (some ⟨w.heap.size,65,none⟩) (some ⟨w.heap.size,97,none⟩) (some ⟨gw,0,none⟩) (some ⟨gp,0,none⟩) (some ⟨gq,0,none⟩) 4 capg0 32 32 32 32 32 32 32 32 32 32 4 capgp 8 capgq) 100),(gq,oc curgq 5),(gp,oc curgp 5),(g0,oc curg0 5),(gw,oc (arrB 32 (bytesW h.work)) 26),(w.heap.size,oc (hdA h) 34)]
 refine aO 21 (qr (R:=FreshR 5 1 176 ((bodyH h).map u8v)) rfl func112 (fun u hu=>callsR_fresh (HCC.out u gr (parts_of_at (EnvX.lt hu mH) (PartsAt.cons (by have h:=box_cell (k:=0) hu mH rfl;exact h) (putL_len _ _) (boxR_bytes hu (mT (mT (mT mH))) (putL_len _ _) HCg0.out) (putL_byte _ 4) (PartsAt.cons (by have h:=box_cell (k:=1) hu mH rfl;exact h) HL.out.1 (bytes_src (EnvX.lt hu (mT (mT (mT (mT (mT mH)))))) (src_box hu (mT (mT (mT (mT (mT mH))))) (src_hd_prev HL.out))) HOK.out.2.1.2 (PartsAt.cons (by have h:=box_cell (k:=2) hu mH rfl;exact h) HL.out.2.1 (bytes_src (EnvX.lt hu (mT (mT (mT (mT (mT mH)))))) (src_box hu (mT (mT (mT (mT (mT mH))))) (src_hd_links HL.out))) HOK.out.2.2.1.2 (PartsAt.cons (by have h:=box_cell (k:=3) hu mH rfl;exact h) HL.out.2.2.1 (bytes_src (EnvX.lt hu (mT (mT (mT (mT (mT mH)))))) (src_box hu (mT (mT (mT (mT (mT mH))))) (src_hd_txs HL.out))) HOK.out.2.2.2.1.2 (PartsAt.cons (by have h:=box_cell (k:=4) hu mH rfl;exact h) HL.out.2.2.2 (bytes_src (EnvX.lt hu (mT (mT (mT (mT (mT mH)))))) (src_box hu (mT (mT (mT (mT (mT mH))))) (src_hd_past HL.out))) HOK.out.2.2.2.2.1.2 (PartsAt.cons (by have h:=box_cell (k:=5) hu mH rfl;exact h) (bytesW_len _) (bytes_src (EnvX.lt hu (mT (mT (mT (mT mH))))) (src_box hu (mT (mT (mT (mT mH)))) HSW.out)) (bytesW_byte _) (PartsAt.cons (by have h:=box_cell (k:=6) hu mH rfl;exact h) (putL_len _ _) (boxR_bytes hu (mT (mT mH)) (putL_len _ _) HCgp.out) (putL_byte _ 4) (PartsAt.cons (by have h:=box_cell (k:=7) hu mH rfl;exact h) (putL_len _ _) (boxR_bytes hu (mT mH) (putL_len _ _) HCgq.out) (putL_byte _ 8) PartsAt.nil))))))))))) ?_)
 rintro x N hF hf he14
 obtain⟨gc,capc,curc,rfl,rfl,hcc⟩|⟨_,_,h0,_⟩:=hF
 case inr=>cases h0
 have HCC2:=hD hcc
 have HGC:=hD (hf _ (mS.2 rfl))
 clear hcc
 clear hf
 refine phF [22,23] 0 rfl he14 fun hw=>?_
 refine qw 2 hw ?_
 refine eH fun u17 EX16=>?_
 go_wp2
 go_returns
 refine⟨⟨_,rfl,?_⟩,EnvX.bel EX16.out⟩
 unfold OwnB
 rw[HBL.out.1]
 exact⟨by rw[lM,HBL.out.1], .inr ⟨gc,capc,curc,rfl,HGC.out.1,EnvX.box EX16.out _ _ mH,HCC2.out⟩⟩
theorem hput_any(h:Hd)(w:World)(hh:okHd h):
  Calls Tryz.prog 67 #[hdV h] w fun e w'=>(∃v,e= .returned (.tuple #[v, .bool (putH h).2])∧OwnB w' w.heap.size v (putH h).1)∧Below w.heap.size w w':=by
 cases k:mayPut h with
 |true=>exact hput_yes h w hh k
 |false=>exact hput_no h w hh k
theorem hid_no(h:Hd)(w:World)(hh:okHd h)(ht:Tables w)(k:mayPut h=false):
  Rz 32 #[hdV h] w (idv (idH h)):=by
 unfold Rz
 have hp:putH h=([],false):=by unfold putH;rw[if_neg (by rw[k];exact Bool.noConfusion)]
 have hi:idH h=z32:=by unfold idH;rw[if_neg (by rw[k];exact Bool.noConfusion)]
 rw[hi]
 have HZ:Hid ((arrB 32 z32).size=32):=arrB_size _ _ (by decide)
 clear k hi
 have HL:=hD hh.len
 have HLE:Hid (w.heap.size≤w.heap.size+1):=by show _≤_;omega
 have E1:Hid (EnvX w ((w.alloc (.cells (hdA h) 34)).alloc (.cells (arrB 32 []) 26)) [(w.heap.size+1,oc (arrB 32 []) 26),(w.heap.size,oc (hdA h) 34)]):=(EnvX.start w).two _ _
 have HPT:Hid (∀u,Calls Tryz.prog 67 #[hdV h] u fun e w'=>(∃v,e= .returned (.tuple #[v, .bool (putH h).2])∧OwnB w' u.heap.size v (putH h).1)∧Below u.heap.size u w'):=fun u=>hput_any h u hh
 rw[hp]at HPT
 clear hp hh
 unfold hdV
 go_enter func32,ntmps32
 go_upto_region 1 with (fail)
 rw[zero_cells]
 generalize (w.alloc (.cells (hdA h) 34)).alloc (.cells (arrB 32 []) 26)=W at *
 have HLD:Hid ((loadVar 34 ⟨w.heap.size,0,none⟩).run Tryz.prog W= .ok (.agg (hdA h)) W):=box_hd E1.out (mT mH) HL.out
 go_wp2_with ((with_reducible refine wpList_load_run (o:=⟨some 6,_,_,_,_,_⟩) ?_ 34 (.tmp 1) ?_ ⟨w.heap.size,0,none⟩ ?_ HLD.out ?_);(rfl);(rfl);(rfl))
 refine(HPT.out W).mono ?_
 rintro e w1 ⟨⟨v,rfl,hv⟩,hb⟩
 have E2:Hid (EnvX w w1 [(w.heap.size+1,oc (arrB 32 []) 26),(w.heap.size,oc (hdA h) 34)]):=EnvX.below E1.out hb
 clear hv hb E1 HLD ht
 go_upto_region 3 with (fail)
 refine rgQ [0] [1] E2 rfl fun hw=>?_
 refine qv (v:= .agg (arrB 32 z32)) rfl (fun u hu=>buildA_op u hbuilt0) hw ?_
 refine wpG_nil<|(so rfl HLE.out mH (info26 _ HZ.out) ((arrB_size _ _ (by simp)).trans HZ.out.symm) (arrB_one _ _) ?_)
 refine fun _=>enL fun u4 EX3=>?_
 have Q0:=hD (EnvX.box EX3.out _ _ mH)
 have HBEL:=hD EX3.out.bel
 clear EX3
 go_wp2_with ((with_reducible refine bodyPost_ret (v:= .agg (arrB 32 z32)) ?_ ?_ ?_);(exact results_cell_row (p:=2) (ty:=26) results32 _ _ (w.heap.size+1) 26 (arrB 32 z32) (0,0) _ rfl Q0.out underlying26 rfl (info26 _ HZ.out));(rfl))
 exact⟨rfl,HBEL.out⟩
theorem hid_yes(h:Hd)(w:World)(hh:okHd h)(ht:Tables w)(k:mayPut h=true):
   Rz 32 #[hdV h] w (idv (idH h)):=by
 unfold Rz
 have hp:putH h=(bodyH h,true):=by unfold putH;rw[if_pos k]
 have hi:idH h=sumL (5::bodyH h):=by unfold idH;rw[if_pos k]
 rw[hi]
 obtain⟨su,hsu⟩: ∃su,sumL (5::bodyH h)=su:=⟨_,rfl⟩
 have HZ:Hid ((arrB 32 su).size=32):=arrB_size _ _ (by rw[←hsu,sumL_len];omega)
 have HSU:=hD hsu
 rw[hsu]
 clear hsu
 have HBO:=hD (And.intro (body_len hh) (body_byte hh))
 clear k hi
 have HL:=hD hh.len
 have HLE:Hid (w.heap.size≤w.heap.size+1):=by show _≤_;omega
 have E1:Hid (EnvX w ((w.alloc (.cells (hdA h) 34)).alloc (.cells (arrB 32 []) 26)) [(w.heap.size+1,oc (arrB 32 []) 26),(w.heap.size,oc (hdA h) 34)]):=(EnvX.start w).two _ _
 have HPT:Hid (∀u,Calls Tryz.prog 67 #[hdV h] u fun e w'=>(∃v,e= .returned (.tuple #[v, .bool (putH h).2])∧OwnB w' u.heap.size v (putH h).1)∧Below u.heap.size u w'):=fun u=>hput_any h u hh
 rw[hp]at HPT
 clear hp hh
 unfold hdV
 go_enter func32,ntmps32
 go_upto_region 1 with (fail)
 rw[zero_cells]
 generalize (w.alloc (.cells (hdA h) 34)).alloc (.cells (arrB 32 []) 26)=W at *
 have HLD:Hid ((loadVar 34 ⟨w.heap.size,0,none⟩).run Tryz.prog W= .ok (.agg (hdA h)) W):=box_hd E1.out (mT mH) HL.out
 go_wp2_with ((with_reducible refine wpList_load_run (o:=⟨some 6,_,_,_,_,_⟩) ?_ 34 (.tmp 1) ?_ ⟨w.heap.size,0,none⟩ ?_ HLD.out ?_);(rfl);(rfl);(rfl))
 refine(HPT.out W).mono ?_
 rintro e w1 ⟨⟨v,rfl,hv⟩,hb⟩
 obtain⟨hv1,⟨_,h0⟩|⟨gv,capv,curv,rfl,hg1,hg2,hg3⟩⟩:=hv
 · have:=HBO.out.1
   omega
 have E2:Hid (EnvX w w1 [(gv,oc curv 5),(w.heap.size+1,oc (arrB 32 []) 26),(w.heap.size,oc (hdA h) 34)]):=⟨(EnvX.below E1.out hb).bel,fun g o hm=>by
   rcases List.mem_cons.1 hm with e|e
   · cases e
     exact hg2
   · exact(EnvX.below E1.out hb).box g o e⟩
 rw[HBO.out.1]at hg3 ⊢
 have HGV:=hD hg3
 have HOF:Hid (∀(u:World)(gr:Nat),EnvX w u []→Parts u u.heap.size (some ⟨gr,0,none⟩) [[5],bodyH h]→Calls Tryz.prog 65 #[.slice (some ⟨gr,0,none⟩) 2 2] u fun e w'=>e= .returned (.agg (arrB 32 su))∧Below u.heap.size u w'):=fun u gr hE hp=>by
   have e:[[5],bodyH h].flatten=5::bodyH h:=by simp
   have h1:=shaof_any (some ⟨gr,0,none⟩) 2 2 [[5],bodyH h] u rfl hp (by omega) (by rw[e,List.length_cons,HBO.out.1];decide) (ht.below hE.bel)
   rwa[e,HSU.out]at h1
 clear hv1 hb E1 HLD hg1 hg2 hg3 ht
 go_upto_region 4 with (fail)
 refine wp_region_Hx (w0:=w) [0,1,2,3,4] [(gv,oc curv 5),(w.heap.size+1,oc (arrB 32 []) 26),(w.heap.size,oc (hdA h) 34)] rfl E2.out ?_
 refine(hOp_fresh (R:=fun v N=> ∃g,v= .slice (some ⟨g,0,none⟩) 1 1∧N=[(g,oc #[.int .u8 5] 5)]) (M0:=[(gv,oc curv 5),(w.heap.size+1,oc (arrB 32 []) 26),(w.heap.size,oc (hdA h) 34)]) rfl rfl (fun _ h=>h) (fun u hu=>FAt_byte1 5 u) ?_)
 rintro _ _ ⟨g5,rfl,rfl⟩ hf he1;intro K' hK';go_big_quiet_op;go_big_quiet_on
 clear hf
 refine phE [1] [2,3,4] he1 fun hw=>?_
 refine qo rfl hw ?_
 refine wpG_nil<|(hOp_fresh (R:=fun v N=> ∃g,v= .slice (some ⟨g,0,none⟩) 2 2∧N=[(g,oc #[.slice (some ⟨g5,0,none⟩) 1 1, .slice (some ⟨gv,0,none⟩) 176 capv] 100)]) (M0:=[(g5,oc #[.int .u8 5] 5),(gv,oc curv 5),(w.heap.size+1,oc (arrB 32 []) 26),(w.heap.size,oc (hdA h) 34)]) rfl rfl (fun _ h=>h) (fun u hu=>FAt_rows2 rfl rfl u) ?_)
 rintro _ _ ⟨gr,rfl,rfl⟩ hf he3;intro K' hK';go_big_quiet_op;go_big_quiet_on
 clear hf
 refine phE [3] [4] he3 fun hw=>?_
 refine qc rfl func65 (fun u hu=>HOF.out u gr (nl hu) (parts_two (EnvX.lt hu mH) (by have h:=box_cell (k:=0) hu mH rfl;exact h) (boxR_bytes (cap:=1) hu (mT mH) rfl ⟨by decide,by decide,rfl,rfl⟩) (by intro x hx;cases mS.1 hx;omega) (by have h:=box_cell (k:=1) hu mH rfl;rw[HBO.out.1];exact h) (boxR_bytes hu (mT (mT mH)) HBO.out.1 HGV.out) HBO.out.2)) hw ?_
 refine wpG_nil<|(so rfl HLE.out (mT (mT (mT mH))) (info26 _ HZ.out) ((arrB_size _ _ (by simp)).trans HZ.out.symm) (arrB_one _ _) ?_)
 refine fun _=>enL fun u7 EX6=>?_
 have Q0:=hD (EnvX.box EX6.out _ _ mH)
 have HBEL:=hD EX6.out.bel
 clear EX6
 go_wp2_with ((with_reducible refine bodyPost_ret (v:= .agg (arrB 32 su)) ?_ ?_ ?_);(exact results_cell_row (p:=2) (ty:=26) results32 _ _ (w.heap.size+1) 26 (arrB 32 su) (0,0) _ rfl Q0.out underlying26 rfl (info26 _ HZ.out));(rfl))
 exact⟨rfl,HBEL.out⟩
theorem hid_any(h:Hd)(w:World)(hh:okHd h)(ht:Tables w):
  Rz 32 #[hdV h] w (idv (idH h)):=by
 unfold Rz
 cases k:mayPut h with
 |true=>exact hid_yes h w hh ht k
 |false=>exact hid_no h w hh ht k
theorem hlevel_a(h:Hd)(w:World)(hh:okHd h)(ht:Tables w)(hc:isC h.bits=false):
  Rz 35 #[hdV h] w (.int .i64 (levelH h)):=by
 unfold Rz
 have hv:levelH h= -1:=by unfold levelH;rw[hc,Bool.and_false];rfl
 rw[hv]
 clear hv
 have HL:=hD hh.len
 have E1:Hid (EnvX w (w.alloc (.cells (hdA h) 34)) [(w.heap.size,oc (hdA h) 34)]):=(EnvX.start w).new _
 have HTG:Hid (∀u,Calls Tryz.prog 72 #[.int .u32 (h.bits:Int)] u fun e w'=>e= .returned (.tuple #[.agg (wcs (tv h.bits)), .bool (isC h.bits)])∧Below u.heap.size u w'):=fun u=>target_any h.bits u hh.2.2.2.2.2.2.1
 rw[hc]at HTG
 clear hh hc ht
 unfold hdV
 go_enter func35,ntmps35
 go_upto_region 1 with (fail)
 generalize w.alloc (.cells (hdA h) 34)=W at *
 refine rgQ [0,1,2,3,4,5] [6,7,8] E1 rfl fun hw=>?_
 refine qo rfl hw ?_
 refine ql rfl mH HL.out hw ?_
 refine qc rfl func72 (fun u hu=>HTG.out u) hw ?_
 refine qw 3 hw ?_
 refine wpG_nil<|qn rfl (new_wd _) fun gt HGT he2=>?_
 change lexH _ _ _ _ _ _ [(gt,oc (wcs 0) 32),(w.heap.size,oc (hdA h) 34)]
 refine(sh rfl HGT (wc_info _) ((wc_size _).trans (wc_size _).symm) (wc_one _) ?_)
 intro he3
 refine phE [8] [] he3 fun hw=>?_
 refine qo rfl hw ?_
 refine enP fun u6 EX5=>?_
 go_upto_region 2 with (fail)
 refine rgQ [0,1,2,3,4,5,6,7,8] [] EX5 rfl fun hw=>?_
 refine qw 9 hw ?_
 refine enP fun u9 EX8=>?_
 have HBE:=hD (EnvX.bel EX8.out)
 go_wp2
 go_ret
 exact⟨rfl,HBE.out⟩
theorem hlevel_b(h:Hd)(w:World)(hh:okHd h)(ht:Tables w)(hc:isC h.bits=true)(k:mayPut h=false):
  Rz 35 #[hdV h] w (.int .i64 (levelH h)):=by
 unfold Rz
 have hv:levelH h= -1:=by unfold levelH;rw[k];rfl
 rw[hv]
 clear hv
 have HL:=hD hh.len
 have E1:Hid (EnvX w (w.alloc (.cells (hdA h) 34)) [(w.heap.size,oc (hdA h) 34)]):=(EnvX.start w).new _
 have HTG:Hid (∀u,Calls Tryz.prog 72 #[.int .u32 (h.bits:Int)] u fun e w'=>e= .returned (.tuple #[.agg (wcs (tv h.bits)), .bool (isC h.bits)])∧Below u.heap.size u w'):=fun u=>target_any h.bits u hh.2.2.2.2.2.2.1
 rw[hc]at HTG
 have HMH:Hid (∀u,Calls Tryz.prog 73 #[.int .i64 h.height] u fun e w'=>e= .returned (.bool (mayPut h))∧Below u.heap.size u w'):=fun u=>mayh_any h.height u
 rw[k]at HMH
 clear hh hc k ht
 unfold hdV
 go_enter func35,ntmps35
 go_upto_region 1 with (fail)
 generalize w.alloc (.cells (hdA h) 34)=W at *
 refine rgQ [0,1,2,3,4,5] [6,7,8] E1 rfl fun hw=>?_
 refine qo rfl hw ?_
 refine ql rfl mH HL.out hw ?_
 refine qc rfl func72 (fun u hu=>HTG.out u) hw ?_
 refine qw 3 hw ?_
 refine wpG_nil<|qn rfl (new_wd _) fun gt HGT he2=>?_
 change lexH _ _ _ _ _ _ [(gt,oc (wcs 0) 32),(w.heap.size,oc (hdA h) 34)]
 refine(sh rfl HGT (wc_info _) ((wc_size _).trans (wc_size _).symm) (wc_one _) ?_)
 intro he3
 refine phE [8] [] he3 fun hw=>?_
 refine qo rfl hw ?_
 refine enP fun u6 EX5=>?_
 go_upto_region 2 with (fail)
 refine rgQ [0,1,2,3,4,5,6,7,8] [] EX5 rfl fun hw=>?_
 refine qw 4 hw ?_
 refine ql rfl (mT mH) trivial hw ?_
 refine qc rfl func73 (fun u hu=>HMH.out u) hw ?_
 refine qw 3 hw ?_
 refine enP fun u9 EX8=>?_
 have HBE:=hD (EnvX.bel EX8.out)
 go_wp2
 go_ret
 exact⟨rfl,HBE.out⟩
theorem hlevel_c(h:Hd)(w:World)(hh:okHd h)(ht:Tables w)(hc:isC h.bits=true)(k:mayPut h=true)(h0:h.height=0):
  Rz 35 #[hdV h] w (.int .i64 (levelH h)):=by
 unfold Rz
 have hv:levelH h=31:=by unfold levelH;rw[k,hc];exact if_pos h0
 rw[hv]
 have C0:Hid (decide (h.height=0)=true):=decide_eq_true h0
 clear hv h0
 have HL:=hD hh.len
 have E1:Hid (EnvX w (w.alloc (.cells (hdA h) 34)) [(w.heap.size,oc (hdA h) 34)]):=(EnvX.start w).new _
 have HTG:Hid (∀u,Calls Tryz.prog 72 #[.int .u32 (h.bits:Int)] u fun e w'=>e= .returned (.tuple #[.agg (wcs (tv h.bits)), .bool (isC h.bits)])∧Below u.heap.size u w'):=fun u=>target_any h.bits u hh.2.2.2.2.2.2.1
 rw[hc]at HTG
 have HMH:Hid (∀u,Calls Tryz.prog 73 #[.int .i64 h.height] u fun e w'=>e= .returned (.bool (mayPut h))∧Below u.heap.size u w'):=fun u=>mayh_any h.height u
 rw[k]at HMH
 clear hh hc k ht
 unfold hdV
 go_enter func35,ntmps35
 go_upto_region 1 with (fail)
 generalize w.alloc (.cells (hdA h) 34)=W at *
 refine rgQ [0,1,2,3,4,5] [6,7,8] E1 rfl fun hw=>?_
 refine qo rfl hw ?_
 refine ql rfl mH HL.out hw ?_
 refine qc rfl func72 (fun u hu=>HTG.out u) hw ?_
 refine qw 3 hw ?_
 refine wpG_nil<|qn rfl (new_wd _) fun gt HGT he2=>?_
 change lexH _ _ _ _ _ _ [(gt,oc (wcs 0) 32),(w.heap.size,oc (hdA h) 34)]
 refine(sh rfl HGT (wc_info _) ((wc_size _).trans (wc_size _).symm) (wc_one _) ?_)
 intro he3
 refine phE [8] [] he3 fun hw=>?_
 refine qo rfl hw ?_
 refine enP fun u6 EX5=>?_
 go_upto_region 2 with (fail)
 refine rgQ [0,1,2,3,4,5,6,7,8] [] EX5 rfl fun hw=>?_
 refine qw 4 hw ?_
 refine ql rfl (mT mH) trivial hw ?_
 refine qc rfl func73 (fun u hu=>HMH.out u) hw ?_
 refine qw 3 hw ?_
 refine enP fun u9 EX8=>?_
 go_upto_region 4 with (fail)
 refine rgQ [0,1,2,3] [] EX8 rfl fun hw=>?_
 refine qo rfl hw ?_
 refine ql rfl (mT mH) trivial hw ?_
 refine qv rfl (fun u hu=>eqlI_op u C0.out rfl rfl) hw ?_
 refine qo rfl hw ?_
 refine enP fun u12 EX11=>?_
 have HBE:=hD (EnvX.bel EX11.out)
 go_wp2
 go_ret
 exact⟨rfl,HBE.out⟩
theorem hlevel_d(h:Hd)(w:World)(hh:okHd h)(ht:Tables w)(hc:isC h.bits=true)(k:mayPut h=true)(h0:h.height≠0):
  Rz 35 #[hdV h] w (.int .i64 (levelH h)):=by
 unfold Rz
 have hv:levelH h=lvI (numB (idH h)) (tv h.bits):=by unfold levelH;rw[k,hc];exact if_neg h0
 rw[hv]
 have C0:Hid (decide (h.height=0)=false):=decide_eq_false h0
 clear hv h0
 have HL:=hD hh.len
 have E1:Hid (EnvX w (w.alloc (.cells (hdA h) 34)) [(w.heap.size,oc (hdA h) 34)]):=(EnvX.start w).new _
 have HTG:Hid (∀u,Calls Tryz.prog 72 #[.int .u32 (h.bits:Int)] u fun e w'=>e= .returned (.tuple #[.agg (wcs (tv h.bits)), .bool (isC h.bits)])∧Below u.heap.size u w'):=fun u=>target_any h.bits u hh.2.2.2.2.2.2.1
 rw[hc]at HTG
 have HMH:Hid (∀u,Calls Tryz.prog 73 #[.int .i64 h.height] u fun e w'=>e= .returned (.bool (mayPut h))∧Below u.heap.size u w'):=fun u=>mayh_any h.height u
 rw[k]at HMH
 have HID:Hid (Rt w 32 #[hdV h] (idv (idH h))):=fun u hE=>hid_any h u hh (ht.below hE.bel)
 have HLV:Hid (∀u,Calls Tryz.prog 74 #[idv (idH h), .agg (wcs (tv h.bits))] u fun e w'=>e= .returned (.int .i64 (lvI (numB (idH h)) (tv h.bits)))∧Below u.heap.size u w'):=fun u=>by
  unfold idv
  rw[arr_idF (id_len h) (id_byte h)]
  exact level_any (fun i=>((idH h).getD i 0).toNat) (byte_toNat (id_byte h)) (tv h.bits) u (tv_big h.bits)
 clear hh hc k ht
 unfold hdV
 go_enter func35,ntmps35
 go_upto_region 1 with (fail)
 generalize w.alloc (.cells (hdA h) 34)=W at *
 refine rgQ [0,1,2,3,4,5] [6,7,8] E1 rfl fun hw=>?_
 refine qo rfl hw ?_
 refine ql rfl mH HL.out hw ?_
 refine qc rfl func72 (fun u hu=>HTG.out u) hw ?_
 refine qw 3 hw ?_
 refine wpG_nil<|qn rfl (new_wd _) fun gt HGT he2=>?_
 change lexH _ _ _ _ _ _ [(gt,oc (wcs 0) 32),(w.heap.size,oc (hdA h) 34)]
 refine(sh rfl HGT (wc_info _) ((wc_size _).trans (wc_size _).symm) (wc_one _) ?_)
 intro he3
 refine phE [8] [] he3 fun hw=>?_
 refine qo rfl hw ?_
 refine enP fun u6 EX5=>?_
 go_upto_region 2 with (fail)
 refine rgQ [0,1,2,3,4,5,6,7,8] [] EX5 rfl fun hw=>?_
 refine qw 4 hw ?_
 refine ql rfl (mT mH) trivial hw ?_
 refine qc rfl func73 (fun u hu=>HMH.out u) hw ?_
 refine qw 3 hw ?_
 refine enP fun u9 EX8=>?_
 go_upto_region 4 with (fail)
 refine rgQ [0,1,2,3] [] EX8 rfl fun hw=>?_
 refine qo rfl hw ?_
 refine ql rfl (mT mH) trivial hw ?_
 refine qv rfl (fun u hu=>eqlI_op u C0.out rfl rfl) hw ?_
 refine qo rfl hw ?_
 refine enP fun u12 EX11=>?_
 go_upto_region 6 with (fail)
 refine rgK [0,1,2,3,4] 0 EX11 rfl fun hw=>?_
 refine ql rfl (mT mH) HL.out hw ?_
 refine qc rfl func32 (fun u hu=>HID.out u (nl hu)) hw ?_
 refine qv rfl (fun u hu=>load_any_op u (box_wide hu mH) rfl) hw ?_
 refine qc rfl func74 (fun u hu=>HLV.out u) hw ?_
 refine qo rfl hw ?_
 refine eH fun u15 EX14=>?_
 have HBE:=hD (EnvX.bel EX14.out)
 go_wp2
 go_ret
 exact⟨rfl,HBE.out⟩
theorem hlevel_any(h:Hd)(w:World)(hh:okHd h)(ht:Tables w):
  Rz 35 #[hdV h] w (.int .i64 (levelH h)):=by
 unfold Rz
 cases hc:isC h.bits with
 |false=>exact hlevel_a h w hh ht hc
 | true=>
  cases k:mayPut h with
  |false=>exact hlevel_b h w hh ht hc k
  |true=>
   by_cases h0:h.height=0
   · exact hlevel_c h w hh ht hc k h0
   · exact hlevel_d h w hh ht hc k h0
theorem hmay_any(h:Hd)(w:World)(hh:okHd h)(ht:Tables w):
  Rz 155 #[hdV h] w (.bool (mayH h)):=by
 unfold Rz
 have HL:=hD hh.len
 have E1:Hid (EnvX w (w.alloc (.cells (hdA h) 34)) [(w.heap.size,oc (hdA h) 34)]):=(EnvX.start w).new _
 have HLV:Hid (Rt w 35 #[hdV h] (.int .i64 (levelH h))):=fun u hE=>hlevel_any h u hh (ht.below hE.bel)
 have HM:Hid (decide (0≤levelH h)=mayH h):=rfl
 clear hh ht
 unfold hdV
 go_enter func155,ntmps155
 go_upto_region 1 with (fail)
 generalize w.alloc (.cells (hdA h) 34)=W at *
 refine rgQ [0,1,2,3] [] E1 rfl fun hw=>?_
 refine ql rfl mH HL.out hw ?_
 refine qc rfl func35 (fun u hu=>HLV.out u (nl hu)) hw ?_
 refine qv rfl (fun u hu=>geq_op u HM.out rfl rfl) hw ?_
 refine qo rfl hw ?_
 refine enP fun u3 EX2=>?_
 have HBE:=hD (EnvX.bel EX2.out)
 go_wp2
 go_ret
 exact⟨rfl,HBE.out⟩
theorem hwork_no(h:Hd)(w:World)(hh:okHd h)(hc:isC h.bits=false):
  Rz 106 #[hdV h] w (.agg (wcs (workH h))):=by
 unfold Rz
 have hw:workH h=0:=by unfold workH;rw[hc];rfl
 rw[hw]
 have HL:=hD hh.len
 have HLE:Hid (w.heap.size≤w.heap.size+1):=by show _≤_;omega
 have E1:Hid (EnvX w ((w.alloc (.cells (hdA h) 34)).alloc (.cells (wcs 0) 32)) [(w.heap.size+1,oc (wcs 0) 32),(w.heap.size,oc (hdA h) 34)]):=(EnvX.start w).two _ _
 have HTG:Hid (∀u,Calls Tryz.prog 72 #[.int .u32 (h.bits:Int)] u fun e w'=>e= .returned (.tuple #[.agg (wcs (tv h.bits)), .bool (isC h.bits)])∧Below u.heap.size u w'):=fun u=>target_any h.bits u hh.2.2.2.2.2.2.1
 rw[hc]at HTG
 have HWK:Hid (∀u,Calls Tryz.prog 161 #[.agg (wcs (tv h.bits))] u fun e w'=>e= .returned (.agg (wcs (wkV (tv h.bits))))∧Below u.heap.size u w'):=fun u=>work_any (tv h.bits) u (tv_big h.bits)
 clear hh hc hw
 unfold hdV
 go_enter func106,ntmps106
 go_upto_region 1 with (fail)
 rw[zero_wcs]
 generalize (w.alloc (.cells (hdA h) 34)).alloc (.cells (wcs 0) 32)=W at *
 refine rgQ [0,1,2,3,4,5] [6,7,8] E1 rfl fun hw=>?_
 refine qo rfl hw ?_
 refine ql rfl (mT mH) HL.out hw ?_
 refine qc rfl func72 (fun u hu=>HTG.out u) hw ?_
 refine qw 3 hw ?_
 refine wpG_nil<|qn rfl (new_wd _) fun gt HGT he2=>?_
 change lexH _ _ _ _ _ _ [(gt,oc (wcs 0) 32),(w.heap.size+1,oc (wcs 0) 32),(w.heap.size,oc (hdA h) 34)]
 refine(sh rfl HGT (wc_info _) ((wc_size _).trans (wc_size _).symm) (wc_one _) ?_)
 intro he3
 refine phE [8] [] he3 fun hw=>?_
 refine qo rfl hw ?_
 refine enP fun u6 EX5=>?_
 go_upto_region 2 with (fail)
 refine rgQ [0,1] [] EX5 rfl fun hw=>?_
 refine qw 2 hw ?_
 refine enP fun u9 EX8=>?_
 go_upto_region 3 with (fail)
 refine rgQ [0] [1] EX8 rfl fun hw=>?_
 refine qv (v:= .agg (wcs 0)) rfl (fun u hu=>buildA_op u hbuilt_w0) hw ?_
 refine wpG_nil<|(so rfl HLE.out (mT mH) (wc_info _) ((wc_size _).trans (wc_size _).symm) (wc_one _) ?_)
 refine fun _=>enL fun u13 EX12=>?_
 have Q0:=hD (EnvX.box EX12.out _ _ mH)
 have HBEL:=hD EX12.out.bel
 clear EX12
 go_wp2_with ((with_reducible refine bodyPost_ret (v:= .agg (wcs 0)) ?_ ?_ ?_);(exact results_cell_row (p:=2) (ty:=32) results106 _ _ (w.heap.size+1) 32 (wcs 0) (0,0) _ rfl Q0.out underlying32 rfl (wc_info _));(rfl))
 first|exact HBEL.out|exact⟨rfl,HBEL.out⟩
theorem hwork_yes(h:Hd)(w:World)(hh:okHd h)(hc:isC h.bits=true):
  Rz 106 #[hdV h] w (.agg (wcs (workH h))):=by
 unfold Rz
 have hw:workH h=wkV (tv h.bits):=by unfold workH;rw[hc];rfl
 rw[hw]
 have HL:=hD hh.len
 have HLE:Hid (w.heap.size≤w.heap.size+1):=by show _≤_;omega
 have E1:Hid (EnvX w ((w.alloc (.cells (hdA h) 34)).alloc (.cells (wcs 0) 32)) [(w.heap.size+1,oc (wcs 0) 32),(w.heap.size,oc (hdA h) 34)]):=(EnvX.start w).two _ _
 have HTG:Hid (∀u,Calls Tryz.prog 72 #[.int .u32 (h.bits:Int)] u fun e w'=>e= .returned (.tuple #[.agg (wcs (tv h.bits)), .bool (isC h.bits)])∧Below u.heap.size u w'):=fun u=>target_any h.bits u hh.2.2.2.2.2.2.1
 rw[hc]at HTG
 have HWK:Hid (∀u,Calls Tryz.prog 161 #[.agg (wcs (tv h.bits))] u fun e w'=>e= .returned (.agg (wcs (wkV (tv h.bits))))∧Below u.heap.size u w'):=fun u=>work_any (tv h.bits) u (tv_big h.bits)
 clear hh hc hw
 unfold hdV
 go_enter func106,ntmps106
 go_upto_region 1 with (fail)
 rw[zero_wcs]
 generalize (w.alloc (.cells (hdA h) 34)).alloc (.cells (wcs 0) 32)=W at *
 refine rgQ [0,1,2,3,4,5] [6,7,8] E1 rfl fun hw=>?_
 refine qo rfl hw ?_
 refine ql rfl (mT mH) HL.out hw ?_
 refine qc rfl func72 (fun u hu=>HTG.out u) hw ?_
 refine qw 3 hw ?_
 refine wpG_nil<|qn rfl (new_wd _) fun gt HGT he2=>?_
 change lexH _ _ _ _ _ _ [(gt,oc (wcs 0) 32),(w.heap.size+1,oc (wcs 0) 32),(w.heap.size,oc (hdA h) 34)]
 refine(sh rfl HGT (wc_info _) ((wc_size _).trans (wc_size _).symm) (wc_one _) ?_)
 intro he3
 refine phE [8] [] he3 fun hw=>?_
 refine qo rfl hw ?_
 refine enP fun u6 EX5=>?_
 go_upto_region 2 with (fail)
 refine rgQ [0,1] [] EX5 rfl fun hw=>?_
 refine qw 2 hw ?_
 refine enP fun u9 EX8=>?_
 go_upto_region 4 with (fail)
 refine rgQ [0,1] [2] EX8 rfl fun hw=>?_
 refine qv rfl (fun u hu=>load_any_op u (box_wide hu mH) rfl) hw ?_
 refine qc rfl func161 (fun u hu=>HWK.out u) hw ?_
 refine wpG_nil<|(so rfl HLE.out (mT mH) (wc_info _) ((wc_size _).trans (wc_size _).symm) (wc_one _) ?_)
 refine fun _=>enL fun u13 EX12=>?_
 have Q0:=hD (EnvX.box EX12.out _ _ mH)
 have HBEL:=hD EX12.out.bel
 clear EX12
 go_wp2_with ((with_reducible refine bodyPost_ret (v:= .agg (wcs (wkV (tv h.bits)))) ?_ ?_ ?_);(exact results_cell_row (p:=2) (ty:=32) results106 _ _ (w.heap.size+1) 32 (wcs (wkV (tv h.bits))) (0,0) _ rfl Q0.out underlying32 rfl (wc_info _));(rfl))
 first|exact HBEL.out|exact⟨rfl,HBEL.out⟩
theorem hwork_any(h:Hd)(w:World)(hh:okHd h):
  Rz 106 #[hdV h] w (.agg (wcs (workH h))):=by
 unfold Rz
 cases hc:isC h.bits with
 |false=>exact hwork_no h w hh hc
 |true=>exact hwork_yes h w hh hc
end Go.Proofs.YtojmeodoenkapaaGreatDoor
