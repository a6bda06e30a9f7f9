/- Part of a proof. -/
import Derived.Test.YtojmeodoenkapaaGreatDoorYc
import Derived.ChangeKeysEq
import Derived.BigQuiet
import Derived.WalkKit
import Derived.Scope
import Derived.ScopeJumps
import Derived.WalkMore
import Derived.Deep.Strs
open Go.Proofs.Tryz
namespace Go.Proofs.YtojmeodoenkapaaGreatDoor
set_option maxRecDepth 20000
set_option maxHeartbeats 8000000
set_option linter.unusedVariables false
set_option linter.unusedSimpArgs false
open Go.RowKit
def upV(a:Nat)(n:Int):Nat:=if 256≤n then 0 else aUp a n.toNat
theorem up_v(a:Nat)(n:Int)(w:World)(ha:a<Big)(hn:n≤9223372036854775807):
   Rz 118 #[.agg (wcs a), .int .i64 n] w (.agg (wcs (upV a n))):=by
 unfold Rz
 unfold upV
 by_cases h0:n<0
 · rw[if_neg (by omega),show n.toNat=0 by omega,aUp_zero a ha]
   exact up_below a n w h0
 · obtain⟨k,rfl⟩:=Int.eq_ofNat_of_zero_le (show 0≤n by omega)
   have h:=up_any a k w ha (by omega)
   by_cases h1:256≤(k:Int)
   · rw[if_pos h1]
     have e:a*2^k % Big=0:=by
      rw[Big_eq,show k=256+(k- 256)by omega,Nat.pow_add,←Nat.mul_assoc,Nat.mul_comm (a*2^256),←Nat.mul_assoc]
      exact Nat.mul_mod_left _ _
     rw[e]at h
     exact h
   · rw[if_neg h1]
     exact h
abbrev wo(n:Nat):Obj:= .cells (wcs n) 32 (0,0)
abbrev io(f:Nat→Int):Obj:= .cells (idF f) 26 (0,0)
theorem small_big{n:Nat}(h:n<18446744073709551616):n<Big:=by unfold Big;omega
def isC(b:Nat):Bool:=decide (3≤b/16777216∧b/16777216≤32∧32768≤b % 16777216∧b % 16777216≤8388607)
def tv(b:Nat):Nat:=if isC b then b % 16777216*2^ (8*(b/16777216- 3))else 0
theorem tv_lt(b:Nat)(h:3≤b/16777216∧b/16777216≤32∧32768≤b % 16777216∧b % 16777216≤8388607):b % 16777216*2^ (8*(b/16777216- 3))<Big:=by
 rw[Big_eq]
 have h1:(2:Nat)^ (8*(b/16777216- 3))≤2^232:=Nat.pow_le_pow_right (by omega) (by omega)
 calc b % 16777216*2^ (8*(b/16777216- 3))≤8388607*2^232:=Nat.mul_le_mul h.2.2.2 h1
  _<2^256:=by decide
theorem tv_big(b:Nat):tv b<Big:=by
 unfold tv
 split
 · rename_i h
   exact tv_lt b (of_decide_eq_true h)
 · exact Big_pos
def wkV(t:Nat):Nat:=if t+1<Big then Big/ (t+1) % Big else 1
theorem wk_prog{t:Nat}(h:t+1<Big):((Big- (t+1)) / (t+1)+1) % Big=wkV t:=by
 unfold wkV
 rw[if_pos h]
 have e:Big=(Big- (t+1))+(t+1):=by omega
 have e2:Big/ (t+1)=(Big- (t+1)) / (t+1)+1:=by
  conv=>lhs;rw[e]
  exact Nat.add_div_right _ (by omega)
 rw[e2]
theorem wkV_lt(t:Nat):wkV t<Big:=by
 unfold wkV
 split
 · exact Nat.mod_lt _ Big_pos
 · unfold Big;omega
def lvC(n t:Nat):Nat→Nat
  |0=>0
  |k+1=>if n≤t/2^k then k+1 else lvC n t k
theorem half_le(t:Nat){i j:Nat}(h:i≤j):t/2^j≤t/2^i:=Nat.div_le_div_left (Nat.pow_le_pow_right (by omega) h) (Nat.pos_of_ne_zero (by simp))
theorem lvC_le(n t:Nat): ∀k,lvC n t k≤k
 |0=>Nat.le_refl _
 |k+1=>by
  unfold lvC
  split
  · omega
  · have:=lvC_le n t k;omega
theorem lvC_iff(n t:Nat): ∀(k j:Nat),j<k→(j<lvC n t k↔n≤t/2^j)
 |0,j,h=>by omega
 |k+1,j,h=>by
  unfold lvC
  by_cases h1:n≤t/2^k
  · rw[if_pos h1]
    have:=half_le t (show j≤k by omega)
    exact⟨fun _=>by omega,fun _=>h⟩
  · rw[if_neg h1]
    by_cases hj:j=k
    · subst hj
      have:=lvC_le n t j
      exact⟨fun h=>by omega,fun h=>absurd h h1⟩
    · exact lvC_iff n t k j (by omega)
def lvI(n t:Nat):Int:=(lvC n t 32:Int) - 1
theorem lvI_le(n t:Nat): -1≤lvI n t∧lvI n t≤31:=by have:=lvC_le n t 32;unfold lvI;omega
theorem lvC_stop{n t k:Nat}(hk:k≤32)(hall: ∀j,j<k→n≤t/2^j)(hstop:k=32∨ ¬n≤t/2^k):lvC n t 32=k:=by
 have h1:=lvC_le n t 32
 rcases Nat.lt_trichotomy (lvC n t 32) k with h|h|h
 · have:=(lvC_iff n t 32 (lvC n t 32) (by omega)).2 (hall _ h)
   omega
 · exact h
 · rcases hstop with h2|h2
   · omega
   · exact absurd ((lvC_iff n t 32 k (by omega)).1 h) h2
theorem and32_nat(a b:Nat)(ha:a<4294967296)(hb:b<4294967296):bits .and .u32 (a:Int) (b:Int)=((a&&& b:Nat):Int):=by
 have hx:a&&& b<2^32:=Nat.and_lt_two_pow _ (by omega)
 have h1:(BitVec.ofInt 32 (a:Int)).toNat=a:=by
  rw[BitVec.ofInt_natCast,BitVec.toNat_ofNat];exact Nat.mod_eq_of_lt (by omega)
 have h2:(BitVec.ofInt 32 (b:Int)).toNat=b:=by
  rw[BitVec.ofInt_natCast,BitVec.toNat_ofNat];exact Nat.mod_eq_of_lt (by omega)
 show IntKind.u32.wrap ((BitVec.ofInt 32 (a:Int) &&& BitVec.ofInt 32 (b:Int)).toNat:Int)=_
 rw[BitVec.toNat_and,h1,h2]
 simp only[IntKind.wrap,IntKind.bits,IntKind.signed]
 simp
 omega
theorem low24(b:Nat)(hb:b<4294967296):bits .and .u32 (b:Int) 16777215=((b % 16777216:Nat):Int):=by
 have h:=and32_nat b 16777215 hb (by omega)
 rw[show (16777215:Nat)=2^24- 1 by decide,Nat.and_two_pow_sub_one_eq_mod]at h
 exact h
theorem target_no(b E M:Nat)(w:World)(hE:(b:Int) /16777216=(E:Int))(hM:bits .and .u32 (b:Int) 16777215=(M:Int))(hb:b<4294967296)(h: ¬(3≤E∧E≤32∧32768≤M∧M≤8388607)):
   Rz 72 #[.int .u32 b] w (.tuple #[.agg (wcs 0), .bool false]):=by
 unfold Rz
 go_enter func72,ntmps72
 by_cases h1:(3:Int)≤(E:Int)
 · by_cases h2:(E:Int)≤32
   · by_cases h3:(32768:Int)≤(M:Int)
     · have h4: ¬(M:Int)≤8388607:=by omega
       go_wp2
       go_returns
       exact⟨rfl,by go_grown⟩
     · go_wp2
       go_returns
       exact⟨rfl,by go_grown⟩
   · go_wp2
     go_returns
     exact⟨rfl,by go_grown⟩
 · go_wp2
   go_returns
   exact⟨rfl,by go_grown⟩
theorem target_yes(b E M:Nat)(w:World)(hE:(b:Int) /16777216=(E:Int))(hM:bits .and .u32 (b:Int) 16777215=(M:Int))(hb:b<4294967296)(h1:3≤E)(h2:E≤32)(h3:32768≤M)(h4:M≤8388607):
  Rz 72 #[.int .u32 b] w (.tuple #[.agg (wcs (M*2^ (8*(E- 3)) % Big)), .bool true]):=by
 unfold Rz
 have HU:Hid (∀u,Calls Tryz.prog 118 #[.agg (wcs M), .int .i64 (8*((E:Int) - 3))] u fun e w'=>e= .returned (.agg (wcs (M*2^ (8*(E- 3)) % Big)))∧Below u.heap.size u w'):=fun u=>by
  have h9:=up_v M (8*((E:Int) - 3)) u (small_big (by omega)) (by omega)
  have e9:upV M (8*((E:Int) - 3))=M*2^ (8*(E- 3)) % Big:=by
   unfold upV aUp
   rw[if_neg (by omega),show (8*((E:Int) - 3)).toNat=8*(E- 3)by omega]
  rw[e9]at h9
  exact h9
 generalize M*2^ (8*(E- 3)) % Big=N at *
 have z0:Hid (Row (w.alloc (.cells #[.int .u64 0, .int .u64 0, .int .u64 0, .int .u64 0] 32)) w.heap.size 32 #[.int .u64 0, .int .u64 0, .int .u64 0, .int .u64 0]):=Row.new w 32 _
 have B0:Hid (Below w.heap.size w (w.alloc (.cells #[.int .u64 0, .int .u64 0, .int .u64 0, .int .u64 0] 32))):=(Below.refl _ _).alloc (Nat.le_refl _) _
 go_enter func72,ntmps72
 go_wp2_with fail
 generalize w.alloc (.cells #[.int .u64 0, .int .u64 0, .int .u64 0, .int .u64 0] 32)=w0 at *
 refine(of_n M w0 (by omega)).mono ?_
 rintro e w1 ⟨rfl,hb1⟩
 have z1:=hD (z0.out.below hb1 z0.out.lt)
 have B1:=hD (B0.out.trans (hb1.mono B0.out.size))
 clear z0 B0 hb1
 go_wp2_with fail
 refine(HU.out w1).mono ?_
 rintro e w2 ⟨rfl,hb2⟩
 have z2:Hid (w2.heap[w.heap.size]?=some (.cells #[.int .u64 0, .int .u64 0, .int .u64 0, .int .u64 0] 32 (0,0))):=z1.out.below hb2 z1.out.lt
 have B2:=hD (B1.out.trans (hb2.mono B1.out.size))
 have hsz:=hD (wc_size N)
 have ho:=hD (wc_one N)
 clear z1 B1 hb2 HU
 generalize hc:wcs N=cs at *
 have HC:=hD hc
 clear hc
 go_wp2_with (first
  |((with_reducible refine wpList_store_row (o:=⟨none, .store 32 _ _,_,_,_,_⟩) ?_ 32 (.tmp 2) (.tmp 32) ?_ w.heap.size cs ?_ ?_ 32 _ z2.out (infoW cs hsz.out) ?_ ho.out ?_);(rfl);(rfl);(rfl);(rfl);(rw[hsz.out];rfl))
  |((with_reducible refine bodyPost_ret (v:= .tuple #[.agg cs, .bool true]) ?_ ?_ ?_);(exact results_row_slot (p:=2) (q:=3) (ty:=32) results72 _ _ w.heap.size 32 cs (0,0) _ rfl _ rfl (setRow_heap _ _ _ cs 32 (0,0) z2.out) underlying32 rfl (infoW cs hsz.out));(rfl)))
 exact⟨by rw[HC.out],below_setRow B2.out (Nat.le_refl _) _⟩
theorem target_any(b:Nat)(w:World)(hb:b<4294967296):
   Rz 72 #[.int .u32 b] w (.tuple #[.agg (wcs (tv b)), .bool (isC b)]):=by
 unfold Rz
 by_cases h:3≤b/16777216∧b/16777216≤32∧32768≤b % 16777216∧b % 16777216≤8388607
 · have h9:=target_yes b (b/16777216) (b % 16777216) w (by omega) (low24 b hb) hb h.1 h.2.1 h.2.2.1 h.2.2.2
   rw[Nat.mod_eq_of_lt (tv_lt b h)]at h9
   have e1:isC b=true:=decide_eq_true h
   have e2:tv b=b % 16777216*2^ (8*(b/16777216- 3)):=by unfold tv;rw[if_pos e1]
   rw[e1,e2]
   exact h9
 · have h9:=target_no b (b/16777216) (b % 16777216) w (by omega) (low24 b hb) hb h
   have e1:isC b=false:=decide_eq_false h
   have e2:tv b=0:=by unfold tv;rw[e1];rfl
   rw[e1,e2]
   exact h9
theorem wcs_zero:wcs 0= #[.int .u64 0, .int .u64 0, .int .u64 0, .int .u64 0]:=rfl
theorem new_wide{dst:Option Tmp}{ty:TypeId}{pos:String}{after:Array Edge}{gd:Option (Nat × Bool)}(a:Act):NewAt Tryz.prog ⟨dst, .alloc 32,ty,pos,after,gd⟩ a (wo 0):=fun u=>by
 have h:=wcs_zero
 unfold wo
 rw[h]
 go_simp
theorem wp_scope_jumps2{P:Program}{a:Act}{w:World}{Q:Exit→Act→World→Prop}{c rest:Code}(l:Nat)(J:Act→World→Prop)(μ:Act→World→Nat)(hf:findLabel c l=some (Code.skip.seq rest))
  (pass: ∀a w,J a w→rest.wp P (Exit.jump l (fun a' w'=>J a' w'∧μ a' w'<μ a w) Q) a w)
  (first:(∀a w,J a w→rest.wp P (Exit.jump l J Q) a w)→c.wp P (Exit.jump l J Q) a w):(Code.scope c).wp P Q a w:=
 wp_scope_jumps l J μ hf (first fun a w h=>wp_mono (pass a w h) (fun e a w he=>by cases e<;>first|exact he|exact⟨he.1,he.2.1⟩)) (fun a w h=>wp_seq (wp_skip (pass a w h)))
theorem ret_num{k:IntKind}{a b:Int}(h:a=b):Ending.returned (.int k a)= .returned (.int k b):=by rw[h]
theorem cmpI_lt{m n:Nat}(h:m<n):cmpI m n= -1:=by unfold cmpI;rw[if_pos h]
theorem cmpI_eq(m:Nat):cmpI m m=0:=by unfold cmpI;simp
theorem cmpI_gt{m n:Nat}(h:n<m):cmpI m n=1:=by unfold cmpI;rw[if_neg (by omega),if_neg (by omega)]
theorem cmpI_sgn(m n:Nat):(cmpI m n<0↔m<n)∧(cmpI m n≤0↔m≤n)∧(0<cmpI m n↔n<m)∧(0≤cmpI m n↔n≤m):=by
 rcases Nat.lt_trichotomy m n with h|h|h
 · rw[cmpI_lt h];omega
 · subst h;rw[cmpI_eq];omega
 · rw[cmpI_gt h];omega
theorem Big_gt:1000000000000<Big:=by unfold Big;omega
theorem add_yes(m n s:Nat)(u:World)(hs:s=m+n)(h:s<Big):
  Calls Tryz.prog 165 #[.agg (wcs m), .agg (wcs n)] u fun e w'=>e= .returned (.tuple #[.agg (wcs s), .bool true])∧Below u.heap.size u w':=by
 subst hs
 have h1:=add_any m n u (by omega) (by omega)
 have e1:decide (m+n<Big)=true:=by simp only[h,decide_true]
 rw[Nat.mod_eq_of_lt h,e1]at h1
 exact h1
theorem add_no(m n s:Nat)(u:World)(hm:m<Big)(hn:n<Big)(hs:s=m+n- Big)(h:Big≤m+n):
  Calls Tryz.prog 165 #[.agg (wcs m), .agg (wcs n)] u fun e w'=>e= .returned (.tuple #[.agg (wcs s), .bool false])∧Below u.heap.size u w':=by
 rw[hs]
 have h1:=add_any m n u hm hn
 have e1:decide (m+n<Big)=false:=by simp only[show¬m+n<Big by omega,decide_false]
 rw[e1,show (m+n) % Big=m+n- Big by rw[Nat.mod_eq_sub_mod h];exact Nat.mod_eq_of_lt (by omega)]at h1
 exact h1
theorem sub_neg(n r:Nat)(u:World)(hn:0<n)(hB:n<Big)(hr:r=Big- n):
  Calls Tryz.prog 177 #[.agg (wcs 0), .agg (wcs n)] u fun e w'=>e= .returned (.tuple #[.agg (wcs r), .bool false])∧Below u.heap.size u w':=by
 rw[hr]
 have h1:=sub_any 0 n u Big_pos hB
 have e1:decide (n≤0)=false:=by simp only[show¬n≤0 by omega,decide_false]
 have e2:(0+(Big- n)) % Big=Big- n:=by rw[Nat.zero_add];exact Nat.mod_eq_of_lt (by omega)
 rw[e1,e2]at h1
 exact h1
theorem work_no(t:Nat)(w:World)(ht:t+1=Big):
  Calls Tryz.prog 161 #[.agg (wcs t)] w fun e w'=>e= .returned (.agg (wcs 1))∧Below w.heap.size w w':=by
 have H1:=hD Big_gt
 have E1:Hid (EnvX w ((w.alloc (.cells (wcs t) 32)).alloc (.cells #[.int .u64 0, .int .u64 0, .int .u64 0, .int .u64 0] 32)) [(w.heap.size+1,wo 0),(w.heap.size,wo t)]):=(EnvX.start w).two (wo t) (wo 0)
 have hb1:w.heap.size≤w.heap.size:=Nat.le_refl _
 have hb2:w.heap.size≤w.heap.size+1:=Nat.le_succ _
 have n21:Hid (w.heap.size+1≠w.heap.size):=by show _≠_;omega
 go_enter func161,ntmps161
 go_upto_region 1 with (fail)
 generalize (w.alloc (.cells (wcs t) 32)).alloc (.cells #[.int .u64 0, .int .u64 0, .int .u64 0, .int .u64 0] 32)=w1 at *
 refine wp_region_Gx (w0:=w) [0] [1,2] [(w.heap.size+1,(wo (0))),(w.heap.size,(wo (t)))] rfl E1.out ?_
 have hone:= @EnvC.one _ _ _ (E1.out)
 (refine wpG_call (f:=119) (args:= #[.int .u64 (1:Nat)]) (v:= .agg (wcs (1))) rfl rfl rfl func119 rfl rfl (fun u _=>of_n 1 u (by decide)) ?_ (E1.out);intro K hK;go_big_quiet_op;go_big_quiet_on)
 clear hone
 refine wpG_nil ?_
 (refine(gOp_new (wo (0)) rfl (new_wide _) ?_);intro g1 hbg1 hfg1;intro K' hK';go_big_quiet_op;go_big_quiet_on)
 have ng1x0:Hid (w.heap.size+1≠g1):=hfg1 (w.heap.size+1,_) mH
 have ng1x1:Hid (w.heap.size≠g1):=hfg1 (w.heap.size,_) (mT mH)
 clear hfg1
 refine(gOp_store rfl (g1) (wcs (1)) rfl rfl hbg1 32 (wcs (0)) mH (wc_info _) ((wc_size _).trans (wc_size _).symm) (wc_one _) [(g1,(wo (1))),(w.heap.size+1,(wo (0))),(w.heap.size,(wo (t)))] (mA ⟨.inl rfl,(mA ⟨.inr ⟨(mT mH),ng1x0.out⟩,(mA ⟨.inr ⟨(mT (mT mH)),ng1x1.out⟩,(fun _ h=>by cases h)⟩)⟩)⟩) ?_)
 rintro u3 ⟨hl2,E2'⟩
 have E2:=hD E2'
 clear hl2 E2' E1
 go_upto_region 2 with (fail)
 refine wp_region_Gx (w0:=w) [0,1,2,3,4,5] [6,7,8] [(g1,(wo (1))),(w.heap.size+1,(wo (0))),(w.heap.size,(wo (t)))] rfl E2.out ?_
 have hone:= @EnvC.one _ _ _ (E2.out)
 (refine wpG_load rfl rfl (w.heap.size) rfl 32 _ _ (fun u hu=>EnvC.box hu _ (wo (t)) (mT (mT mH))) underlying32 rfl (wc_info _) ?_ (E2.out);intro K hK;go_big_quiet_op;go_big_quiet_on)
 (refine wpG_load rfl rfl (g1) rfl 32 _ _ (fun u hu=>EnvC.box hu _ (wo (1)) mH) underlying32 rfl (wc_info _) ?_ (E2.out);intro K hK;go_big_quiet_op;go_big_quiet_on)
 (refine wpG_call (f:=165) (args:= #[.agg (wcs (t)), .agg (wcs (1))]) (v:= .tuple #[.agg (wcs (0)), .bool (false)]) rfl rfl rfl func165 rfl rfl (fun u _=>add_no t 1 0 u (by omega) (by have:=H1.out;omega) (by omega) (by omega)) ?_ (E2.out);intro K hK;go_big_quiet_op;go_big_quiet_on)
 iterate 3 (refine wpG_op rfl rfl rfl ?_;intro K hK;go_big_quiet_op;go_big_quiet_on)
 clear hone
 refine wpG_nil ?_
 (refine(gOp_new (wo (0)) rfl (new_wide _) ?_);intro g4 hbg4 hfg4;intro K' hK';go_big_quiet_op;go_big_quiet_on)
 have ng4x0:Hid (g1≠g4):=hfg4 (g1,_) mH
 have ng4x1:Hid (w.heap.size+1≠g4):=hfg4 (w.heap.size+1,_) (mT mH)
 have ng4x2:Hid (w.heap.size≠g4):=hfg4 (w.heap.size,_) (mT (mT mH))
 clear hfg4
 refine(gOp_store rfl (g4) (wcs (0)) rfl rfl hbg4 32 (wcs (0)) mH (wc_info _) ((wc_size _).trans (wc_size _).symm) (wc_one _) [(g4,(wo (0))),(g1,(wo (1))),(w.heap.size+1,(wo (0))),(w.heap.size,(wo (t)))] (mA ⟨.inl rfl,(mA ⟨.inr ⟨(mT mH),ng4x0.out⟩,(mA ⟨.inr ⟨(mT (mT mH)),ng4x1.out⟩,(mA ⟨.inr ⟨(mT (mT (mT mH))),ng4x2.out⟩,(fun _ h=>by cases h)⟩)⟩)⟩)⟩) ?_)
 (refine(gOp_pure rfl rfl ?_);intro K' hK';go_big_quiet_op;go_big_quiet_on)
 rintro u6 ⟨hl2,E2'⟩
 have E5:=hD E2'
 clear hl2 E2' E2
 go_upto_region 4 with (fail)
 refine wp_region_Gx (w0:=w) [0] [1] [(g4,(wo (0))),(g1,(wo (1))),(w.heap.size+1,(wo (0))),(w.heap.size,(wo (t)))] rfl E5.out ?_
 have hone:= @EnvC.one _ _ _ (E5.out)
 (refine wpG_load rfl rfl (g1) rfl 32 _ _ (fun u hu=>EnvC.box hu _ (wo (1)) (mT mH)) underlying32 rfl (wc_info _) ?_ (E5.out);intro K hK;go_big_quiet_op;go_big_quiet_on)
 clear hone
 refine wpG_nil<|(gOp_store rfl (w.heap.size+1) (wcs (1)) rfl rfl hb2 32 (wcs (0)) (mT (mT mH)) (wc_info _) ((wc_size _).trans (wc_size _).symm) (wc_one _) [(w.heap.size+1,(wo (1))),(g4,(wo (0))),(g1,(wo (1))),(w.heap.size,(wo (t)))] (mA ⟨.inl rfl,(mA ⟨.inr ⟨mH,(Ne.symm ng4x1.out)⟩,(mA ⟨.inr ⟨(mT mH),(Ne.symm ng1x0.out)⟩,(mA ⟨.inr ⟨(mT (mT (mT mH))),(Ne.symm n21.out)⟩,(fun _ h=>by cases h)⟩)⟩)⟩)⟩) ?_)
 rintro u8 ⟨hl2,E2'⟩
 have E7:=hD E2'
 clear hl2 E2' E5
 go_wp2_with ((with_reducible refine bodyPost_ret (v:= .agg (wcs (1))) ?_ ?_ ?_);(exact results_cell_row (p:=2) (ty:=32) results161 _ _ (w.heap.size+1) 32 (wcs (1)) (0,0) _ rfl (E7.out.box _ (wo (1)) mH) underlying32 rfl (wc_info _));(rfl))
 exact E7.out.bel
theorem work_yes(t:Nat)(w:World)(n r k:Nat)(kb:Bool)(hn:Hid (n=t+1))(hnB:Hid (n<Big))(hn0:Hid (0<n))(hr:Hid (r=Big- n))(hrB:Hid (r<Big))(hqB:Hid (r/n<Big))(hk:Hid ((r/n+1) % Big=k))(hkb:Hid (decide (r/n+1<Big)=kb)):
  Calls Tryz.prog 161 #[.agg (wcs t)] w fun e w'=>e= .returned (.agg (wcs k))∧Below w.heap.size w w':=by
 have H1:=hD Big_gt
 have E1:Hid (EnvX w ((w.alloc (.cells (wcs t) 32)).alloc (.cells #[.int .u64 0, .int .u64 0, .int .u64 0, .int .u64 0] 32)) [(w.heap.size+1,wo 0),(w.heap.size,wo t)]):=(EnvX.start w).two (wo t) (wo 0)
 have hb1:w.heap.size≤w.heap.size:=Nat.le_refl _
 have hb2:w.heap.size≤w.heap.size+1:=Nat.le_succ _
 have n21:Hid (w.heap.size+1≠w.heap.size):=by show _≠_;omega
 go_enter func161,ntmps161
 go_upto_region 1 with (fail)
 generalize (w.alloc (.cells (wcs t) 32)).alloc (.cells #[.int .u64 0, .int .u64 0, .int .u64 0, .int .u64 0] 32)=w1 at *
 refine wp_region_Gx (w0:=w) [0] [1,2] [(w.heap.size+1,(wo (0))),(w.heap.size,(wo (t)))] rfl E1.out ?_
 have hone:= @EnvC.one _ _ _ (E1.out)
 (refine wpG_call (f:=119) (args:= #[.int .u64 (1:Nat)]) (v:= .agg (wcs (1))) rfl rfl rfl func119 rfl rfl (fun u _=>of_n 1 u (by decide)) ?_ (E1.out);intro K hK;go_big_quiet_op;go_big_quiet_on)
 clear hone
 refine wpG_nil ?_
 (refine(gOp_new (wo (0)) rfl (new_wide _) ?_);intro g1 hbg1 hfg1;intro K' hK';go_big_quiet_op;go_big_quiet_on)
 have ng1x0:Hid (w.heap.size+1≠g1):=hfg1 (w.heap.size+1,_) mH
 have ng1x1:Hid (w.heap.size≠g1):=hfg1 (w.heap.size,_) (mT mH)
 clear hfg1
 refine(gOp_store rfl (g1) (wcs (1)) rfl rfl hbg1 32 (wcs (0)) mH (wc_info _) ((wc_size _).trans (wc_size _).symm) (wc_one _) [(g1,(wo (1))),(w.heap.size+1,(wo (0))),(w.heap.size,(wo (t)))] (mA ⟨.inl rfl,(mA ⟨.inr ⟨(mT mH),ng1x0.out⟩,(mA ⟨.inr ⟨(mT (mT mH)),ng1x1.out⟩,(fun _ h=>by cases h)⟩)⟩)⟩) ?_)
 rintro u3 ⟨hl2,E2'⟩
 have E2:=hD E2'
 clear hl2 E2' E1
 go_upto_region 2 with (fail)
 refine wp_region_Gx (w0:=w) [0,1,2,3,4,5] [6,7,8] [(g1,(wo (1))),(w.heap.size+1,(wo (0))),(w.heap.size,(wo (t)))] rfl E2.out ?_
 have hone:= @EnvC.one _ _ _ (E2.out)
 (refine wpG_load rfl rfl (w.heap.size) rfl 32 _ _ (fun u hu=>EnvC.box hu _ (wo (t)) (mT (mT mH))) underlying32 rfl (wc_info _) ?_ (E2.out);intro K hK;go_big_quiet_op;go_big_quiet_on)
 (refine wpG_load rfl rfl (g1) rfl 32 _ _ (fun u hu=>EnvC.box hu _ (wo (1)) mH) underlying32 rfl (wc_info _) ?_ (E2.out);intro K hK;go_big_quiet_op;go_big_quiet_on)
 (refine wpG_call (f:=165) (args:= #[.agg (wcs (t)), .agg (wcs (1))]) (v:= .tuple #[.agg (wcs (n)), .bool (true)]) rfl rfl rfl func165 rfl rfl (fun u _=>add_yes t 1 n u hn.out (by have:=hnB.out;omega)) ?_ (E2.out);intro K hK;go_big_quiet_op;go_big_quiet_on)
 iterate 3 (refine wpG_op rfl rfl rfl ?_;intro K hK;go_big_quiet_op;go_big_quiet_on)
 clear hone
 refine wpG_nil ?_
 (refine(gOp_new (wo (0)) rfl (new_wide _) ?_);intro g4 hbg4 hfg4;intro K' hK';go_big_quiet_op;go_big_quiet_on)
 have ng4x0:Hid (g1≠g4):=hfg4 (g1,_) mH
 have ng4x1:Hid (w.heap.size+1≠g4):=hfg4 (w.heap.size+1,_) (mT mH)
 have ng4x2:Hid (w.heap.size≠g4):=hfg4 (w.heap.size,_) (mT (mT mH))
 clear hfg4
 refine(gOp_store rfl (g4) (wcs (n)) rfl rfl hbg4 32 (wcs (0)) mH (wc_info _) ((wc_size _).trans (wc_size _).symm) (wc_one _) [(g4,(wo (n))),(g1,(wo (1))),(w.heap.size+1,(wo (0))),(w.heap.size,(wo (t)))] (mA ⟨.inl rfl,(mA ⟨.inr ⟨(mT mH),ng4x0.out⟩,(mA ⟨.inr ⟨(mT (mT mH)),ng4x1.out⟩,(mA ⟨.inr ⟨(mT (mT (mT mH))),ng4x2.out⟩,(fun _ h=>by cases h)⟩)⟩)⟩)⟩) ?_)
 (refine(gOp_pure rfl rfl ?_);intro K' hK';go_big_quiet_op;go_big_quiet_on)
 rintro u6 ⟨hl2,E2'⟩
 have E5:=hD E2'
 clear hl2 E2' E2
 go_upto_region 5 with (fail)
 refine wp_region_Gx (w0:=w) [0,1,2,3,4,5] [6,7,8] [(g4,(wo (n))),(g1,(wo (1))),(w.heap.size+1,(wo (0))),(w.heap.size,(wo (t)))] rfl E5.out ?_
 have hone:= @EnvC.one _ _ _ (E5.out)
 (refine wpG_op rfl rfl rfl ?_;intro K hK;go_big_quiet_op;go_big_quiet_on)
 (refine wpG_load rfl rfl (g4) rfl 32 _ _ (fun u hu=>EnvC.box hu _ (wo (n)) mH) underlying32 rfl (wc_info _) ?_ (E5.out);intro K hK;go_big_quiet_op;go_big_quiet_on)
 (refine wpG_call (f:=177) (args:= #[.agg (wcs (0)), .agg (wcs (n))]) (v:= .tuple #[.agg (wcs (r)), .bool (false)]) rfl rfl rfl func177 rfl rfl (fun u _=>sub_neg n r u hn0.out hnB.out hr.out) ?_ (E5.out);intro K hK;go_big_quiet_op;go_big_quiet_on)
 iterate 3 (refine wpG_op rfl rfl rfl ?_;intro K hK;go_big_quiet_op;go_big_quiet_on)
 clear hone
 refine wpG_nil ?_
 (refine(gOp_new (wo (0)) rfl (new_wide _) ?_);intro g7 hbg7 hfg7;intro K' hK';go_big_quiet_op;go_big_quiet_on)
 have ng7x0:Hid (g4≠g7):=hfg7 (g4,_) mH
 have ng7x1:Hid (g1≠g7):=hfg7 (g1,_) (mT mH)
 have ng7x2:Hid (w.heap.size+1≠g7):=hfg7 (w.heap.size+1,_) (mT (mT mH))
 have ng7x3:Hid (w.heap.size≠g7):=hfg7 (w.heap.size,_) (mT (mT (mT mH)))
 clear hfg7
 refine(gOp_store rfl (g7) (wcs (r)) rfl rfl hbg7 32 (wcs (0)) mH (wc_info _) ((wc_size _).trans (wc_size _).symm) (wc_one _) [(g7,(wo (r))),(g4,(wo (n))),(g1,(wo (1))),(w.heap.size+1,(wo (0))),(w.heap.size,(wo (t)))] (mA ⟨.inl rfl,(mA ⟨.inr ⟨(mT mH),ng7x0.out⟩,(mA ⟨.inr ⟨(mT (mT mH)),ng7x1.out⟩,(mA ⟨.inr ⟨(mT (mT (mT mH))),ng7x2.out⟩,(mA ⟨.inr ⟨(mT (mT (mT (mT mH)))),ng7x3.out⟩,(fun _ h=>by cases h)⟩)⟩)⟩)⟩)⟩) ?_)
 (refine(gOp_pure rfl rfl ?_);intro K' hK';go_big_quiet_op;go_big_quiet_on)
 rintro u9 ⟨hl2,E2'⟩
 have E8:=hD E2'
 clear hl2 E2' E5
 go_upto_region 6 with (fail)
 refine wp_region_Gx (w0:=w) [0,1,2,3,4,5,6] [7,8,9,10,11] [(g7,(wo (r))),(g4,(wo (n))),(g1,(wo (1))),(w.heap.size+1,(wo (0))),(w.heap.size,(wo (t)))] rfl E8.out ?_
 have hone:= @EnvC.one _ _ _ (E8.out)
 (refine wpG_load rfl rfl (g7) rfl 32 _ _ (fun u hu=>EnvC.box hu _ (wo (r)) mH) underlying32 rfl (wc_info _) ?_ (E8.out);intro K hK;go_big_quiet_op;go_big_quiet_on)
 (refine wpG_load rfl rfl (g4) rfl 32 _ _ (fun u hu=>EnvC.box hu _ (wo (n)) (mT mH)) underlying32 rfl (wc_info _) ?_ (E8.out);intro K hK;go_big_quiet_op;go_big_quiet_on)
 (refine wpG_call (f:=195) (args:= #[.agg (wcs (r)), .agg (wcs (n))]) (v:= .tuple #[.agg (wcs (r/n)), .agg (wcs (r % n)), .bool (true)]) rfl rfl rfl func195 rfl rfl (fun u _=>div_yes r n u hrB.out hnB.out hn0.out) ?_ (E8.out);intro K hK;go_big_quiet_op;go_big_quiet_on)
 iterate 4 (refine wpG_op rfl rfl rfl ?_;intro K hK;go_big_quiet_op;go_big_quiet_on)
 clear hone
 refine wpG_nil ?_
 (refine(gOp_new (wo (0)) rfl (new_wide _) ?_);intro g10 hbg10 hfg10;intro K' hK';go_big_quiet_op;go_big_quiet_on)
 have ng10x0:Hid (g7≠g10):=hfg10 (g7,_) mH
 have ng10x1:Hid (g4≠g10):=hfg10 (g4,_) (mT mH)
 have ng10x2:Hid (g1≠g10):=hfg10 (g1,_) (mT (mT mH))
 have ng10x3:Hid (w.heap.size+1≠g10):=hfg10 (w.heap.size+1,_) (mT (mT (mT mH)))
 have ng10x4:Hid (w.heap.size≠g10):=hfg10 (w.heap.size,_) (mT (mT (mT (mT mH))))
 clear hfg10
 (refine(gOp_new (wo (0)) rfl (new_wide _) ?_);intro g11 hbg11 hfg11;intro K' hK';go_big_quiet_op;go_big_quiet_on)
 have ng11x5:Hid (g10≠g11):=hfg11 (g10,_) mH
 have ng11x6:Hid (g7≠g11):=hfg11 (g7,_) (mT mH)
 have ng11x7:Hid (g4≠g11):=hfg11 (g4,_) (mT (mT mH))
 have ng11x8:Hid (g1≠g11):=hfg11 (g1,_) (mT (mT (mT mH)))
 have ng11x9:Hid (w.heap.size+1≠g11):=hfg11 (w.heap.size+1,_) (mT (mT (mT (mT mH))))
 have ng11x10:Hid (w.heap.size≠g11):=hfg11 (w.heap.size,_) (mT (mT (mT (mT (mT mH)))))
 clear hfg11
 refine(gOp_store rfl (g10) (wcs (r/n)) rfl rfl hbg10 32 (wcs (0)) (mT mH) (wc_info _) ((wc_size _).trans (wc_size _).symm) (wc_one _) [(g10,(wo (r/n))),(g11,(wo (0))),(g7,(wo (r))),(g4,(wo (n))),(g1,(wo (1))),(w.heap.size+1,(wo (0))),(w.heap.size,(wo (t)))] (mA ⟨.inl rfl,(mA ⟨.inr ⟨mH,(Ne.symm ng11x5.out)⟩,(mA ⟨.inr ⟨(mT (mT mH)),ng10x0.out⟩,(mA ⟨.inr ⟨(mT (mT (mT mH))),ng10x1.out⟩,(mA ⟨.inr ⟨(mT (mT (mT (mT mH)))),ng10x2.out⟩,(mA ⟨.inr ⟨(mT (mT (mT (mT (mT mH))))),ng10x3.out⟩,(mA ⟨.inr ⟨(mT (mT (mT (mT (mT (mT mH)))))),ng10x4.out⟩,(fun _ h=>by cases h)⟩)⟩)⟩)⟩)⟩)⟩)⟩) ?_)
 refine(gOp_store rfl (g11) (wcs (r % n)) rfl rfl hbg11 32 (wcs (0)) (mT mH) (wc_info _) ((wc_size _).trans (wc_size _).symm) (wc_one _) [(g11,(wo (r % n))),(g10,(wo (r/n))),(g7,(wo (r))),(g4,(wo (n))),(g1,(wo (1))),(w.heap.size+1,(wo (0))),(w.heap.size,(wo (t)))] (mA ⟨.inl rfl,(mA ⟨.inr ⟨mH,ng11x5.out⟩,(mA ⟨.inr ⟨(mT (mT mH)),ng11x6.out⟩,(mA ⟨.inr ⟨(mT (mT (mT mH))),ng11x7.out⟩,(mA ⟨.inr ⟨(mT (mT (mT (mT mH)))),ng11x8.out⟩,(mA ⟨.inr ⟨(mT (mT (mT (mT (mT mH))))),ng11x9.out⟩,(mA ⟨.inr ⟨(mT (mT (mT (mT (mT (mT mH)))))),ng11x10.out⟩,(fun _ h=>by cases h)⟩)⟩)⟩)⟩)⟩)⟩)⟩) ?_)
 (refine(gOp_pure rfl rfl ?_);intro K' hK';go_big_quiet_op;go_big_quiet_on)
 rintro u13 ⟨hl2,E2'⟩
 have E12:=hD E2'
 clear hl2 E2' E8
 go_upto_region 7 with (fail)
 refine wp_region_Gx (w0:=w) [0,1,2,3,4,5] [6,7,8] [(g11,(wo (r % n))),(g10,(wo (r/n))),(g7,(wo (r))),(g4,(wo (n))),(g1,(wo (1))),(w.heap.size+1,(wo (0))),(w.heap.size,(wo (t)))] rfl E12.out ?_
 have hone:= @EnvC.one _ _ _ (E12.out)
 (refine wpG_load rfl rfl (g10) rfl 32 _ _ (fun u hu=>EnvC.box hu _ (wo (r/n)) (mT mH)) underlying32 rfl (wc_info _) ?_ (E12.out);intro K hK;go_big_quiet_op;go_big_quiet_on)
 (refine wpG_load rfl rfl (g1) rfl 32 _ _ (fun u hu=>EnvC.box hu _ (wo (1)) (mT (mT (mT (mT mH))))) underlying32 rfl (wc_info _) ?_ (E12.out);intro K hK;go_big_quiet_op;go_big_quiet_on)
 (refine wpG_call (f:=165) (args:= #[.agg (wcs (r/n)), .agg (wcs (1))]) (v:= .tuple #[.agg (wcs (k)), .bool (kb)]) rfl rfl rfl func165 rfl rfl (fun u _=>by have h:=add_any (r/n) 1 u hqB.out (by have:=H1.out;omega);rw[hk.out,hkb.out]at h;exact h) ?_ (E12.out);intro K hK;go_big_quiet_op;go_big_quiet_on)
 iterate 3 (refine wpG_op rfl rfl rfl ?_;intro K hK;go_big_quiet_op;go_big_quiet_on)
 clear hone
 refine wpG_nil ?_
 (refine(gOp_new (wo (0)) rfl (new_wide _) ?_);intro g14 hbg14 hfg14;intro K' hK';go_big_quiet_op;go_big_quiet_on)
 have ng14x0:Hid (g11≠g14):=hfg14 (g11,_) mH
 have ng14x1:Hid (g10≠g14):=hfg14 (g10,_) (mT mH)
 have ng14x2:Hid (g7≠g14):=hfg14 (g7,_) (mT (mT mH))
 have ng14x3:Hid (g4≠g14):=hfg14 (g4,_) (mT (mT (mT mH)))
 have ng14x4:Hid (g1≠g14):=hfg14 (g1,_) (mT (mT (mT (mT mH))))
 have ng14x5:Hid (w.heap.size+1≠g14):=hfg14 (w.heap.size+1,_) (mT (mT (mT (mT (mT mH)))))
 have ng14x6:Hid (w.heap.size≠g14):=hfg14 (w.heap.size,_) (mT (mT (mT (mT (mT (mT mH))))))
 clear hfg14
 refine(gOp_store rfl (g14) (wcs (k)) rfl rfl hbg14 32 (wcs (0)) mH (wc_info _) ((wc_size _).trans (wc_size _).symm) (wc_one _) [(g14,(wo (k))),(g11,(wo (r % n))),(g10,(wo (r/n))),(g7,(wo (r))),(g4,(wo (n))),(g1,(wo (1))),(w.heap.size+1,(wo (0))),(w.heap.size,(wo (t)))] (mA ⟨.inl rfl,(mA ⟨.inr ⟨(mT mH),ng14x0.out⟩,(mA ⟨.inr ⟨(mT (mT mH)),ng14x1.out⟩,(mA ⟨.inr ⟨(mT (mT (mT mH))),ng14x2.out⟩,(mA ⟨.inr ⟨(mT (mT (mT (mT mH)))),ng14x3.out⟩,(mA ⟨.inr ⟨(mT (mT (mT (mT (mT mH))))),ng14x4.out⟩,(mA ⟨.inr ⟨(mT (mT (mT (mT (mT (mT mH)))))),ng14x5.out⟩,(mA ⟨.inr ⟨(mT (mT (mT (mT (mT (mT (mT mH))))))),ng14x6.out⟩,(fun _ h=>by cases h)⟩)⟩)⟩)⟩)⟩)⟩)⟩)⟩) ?_)
 (refine(gOp_pure rfl rfl ?_);intro K' hK';go_big_quiet_op;go_big_quiet_on)
 rintro u16 ⟨hl2,E2'⟩
 have E15:=hD E2'
 clear hl2 E2' E12
 go_upto_region 8 with (fail)
 refine wp_region_Gx (w0:=w) [0] [1] [(g14,(wo (k))),(g11,(wo (r % n))),(g10,(wo (r/n))),(g7,(wo (r))),(g4,(wo (n))),(g1,(wo (1))),(w.heap.size+1,(wo (0))),(w.heap.size,(wo (t)))] rfl E15.out ?_
 have hone:= @EnvC.one _ _ _ (E15.out)
 (refine wpG_load rfl rfl (g14) rfl 32 _ _ (fun u hu=>EnvC.box hu _ (wo (k)) mH) underlying32 rfl (wc_info _) ?_ (E15.out);intro K hK;go_big_quiet_op;go_big_quiet_on)
 clear hone
 refine wpG_nil<|(gOp_store rfl (w.heap.size+1) (wcs (k)) rfl rfl hb2 32 (wcs (0)) (mT (mT (mT (mT (mT (mT mH)))))) (wc_info _) ((wc_size _).trans (wc_size _).symm) (wc_one _) [(w.heap.size+1,(wo (k))),(g14,(wo (k))),(g11,(wo (r % n))),(g10,(wo (r/n))),(g7,(wo (r))),(g4,(wo (n))),(g1,(wo (1))),(w.heap.size,(wo (t)))] (mA ⟨.inl rfl,(mA ⟨.inr ⟨mH,(Ne.symm ng14x5.out)⟩,(mA ⟨.inr ⟨(mT mH),(Ne.symm ng11x9.out)⟩,(mA ⟨.inr ⟨(mT (mT mH)),(Ne.symm ng10x3.out)⟩,(mA ⟨.inr ⟨(mT (mT (mT mH))),(Ne.symm ng7x2.out)⟩,(mA ⟨.inr ⟨(mT (mT (mT (mT mH)))),(Ne.symm ng4x1.out)⟩,(mA ⟨.inr ⟨(mT (mT (mT (mT (mT mH))))),(Ne.symm ng1x0.out)⟩,(mA ⟨.inr ⟨(mT (mT (mT (mT (mT (mT (mT mH))))))),(Ne.symm n21.out)⟩,(fun _ h=>by cases h)⟩)⟩)⟩)⟩)⟩)⟩)⟩)⟩) ?_)
 rintro u18 ⟨hl2,E2'⟩
 have E17:=hD E2'
 clear hl2 E2' E15
 go_wp2_with ((with_reducible refine bodyPost_ret (v:= .agg (wcs (k))) ?_ ?_ ?_);(exact results_cell_row (p:=2) (ty:=32) results161 _ _ (w.heap.size+1) 32 (wcs (k)) (0,0) _ rfl (E17.out.box _ (wo (k)) mH) underlying32 rfl (wc_info _));(rfl))
 exact E17.out.bel
theorem work_any(t:Nat)(w:World)(ht:t<Big):
   Rz 161 #[.agg (wcs t)] w (.agg (wcs (wkV t))):=by
 unfold Rz
 by_cases h:t+1<Big
 · have h1:=wk_prog h
   refine work_yes t w (t+1) (Big- (t+1)) (wkV t) _ rfl h (by show _<_;omega) rfl (by show _<_;omega) ?_ h1 rfl
   show _<_
   exact Nat.lt_of_le_of_lt (Nat.div_le_self _ _) (by omega)
 · have e:wkV t=1:=by unfold wkV;rw[if_neg h]
   rw[e]
   exact work_no t w (by omega)
theorem reaches_any(n t k g5 g3:Nat)(b:Bool)(w:World)(hn:Hid (n<Big))(ht:Hid (t<Big))(hk:k≤31)(hb:Hid (decide (n≤t/2^k)=b))(h5:Hid (w.heap[g5]?=some (wo n)))(h3:Hid (w.heap[g3]?=some (wo t))):
  Calls Tryz.prog 121 #[.int .i64 (k:Int), .pointer (some ⟨g5,0,none⟩), .pointer (some ⟨g3,0,none⟩)] w fun e w'=>e= .returned (.bool b)∧Below w.heap.size w w':=by
 have E1:Hid (EnvX w w [(g5,wo n),(g3,wo t)]):=⟨Below.refl _ _,fun g o hm=>by
  rcases List.mem_cons.1 hm with e|hm
  · cases e;exact h5.out
  · cases mS.1 hm;exact h3.out⟩
 clear h5 h3
 have hdB:=hD (Nat.lt_of_le_of_lt (Nat.div_le_self t (2^k)) ht.out)
 have hS:=hD (cmpI_sgn n (t/2^k)).2.1
 have hdn:Hid (∀u,Calls Tryz.prog 123 #[.agg (wcs t), .int .i64 (k:Int)] u fun e w'=>e= .returned (.agg (wcs (t/2^k)))∧Below u.heap.size u w'):=fun u=>down_any t k u ht.out (by omega)
 generalize t/2^k=d at *
 generalize hc:cmpI n d=c at *
 have HC:=hD hc
 clear hc
 go_enter func121,ntmps121
 go_upto_region 1 with (fail)
 refine wp_region_G (w0:=w) [0,1,2,3,4,5,6] [(g5,(wo (n))),(g3,(wo (t)))] 0 (by kernel_rfl) (by kernel_rfl) rfl E1.out ?_
 have hone:= @EnvC.one _ _ _ (E1.out.drew)
 (refine wpG_load rfl rfl (g5) rfl 32 _ _ (fun u hu=>EnvC.box hu _ (wo (n)) mH) underlying32 rfl (wc_info _) ?_ (E1.out.drew);intro K hK;go_big_quiet_op;go_big_quiet_on)
 (refine wpG_load rfl rfl (g3) rfl 32 _ _ (fun u hu=>EnvC.box hu _ (wo (t)) (mT mH)) underlying32 rfl (wc_info _) ?_ (E1.out.drew);intro K hK;go_big_quiet_op;go_big_quiet_on)
 (refine wpG_op rfl rfl rfl ?_;intro K hK;go_big_quiet_op;go_big_quiet_on)
 (refine wpG_call (f:=123) (args:= #[.agg (wcs (t)), .int .i64 (k:Int)]) (v:= .agg (wcs (d))) rfl rfl rfl func123 rfl rfl (fun u _=>hdn.out u) ?_ (E1.out.drew);intro K hK;go_big_quiet_op;go_big_quiet_on)
 (refine wpG_call (f:=122) (args:= #[.agg (wcs (n)), .agg (wcs (d))]) (v:= .int .i64 c) rfl rfl rfl func122 rfl rfl (fun u _=>(by rw[←HC.out];exact cmp_any n d u hn.out hdB.out)) ?_ (E1.out.drew);intro K hK;go_big_quiet_op;go_big_quiet_on)
 iterate 2 (refine wpG_op rfl rfl rfl ?_;intro K hK;go_big_quiet_op;go_big_quiet_on)
 clear hone
 refine wpG_nil<|anyG_done (by kernel_rfl) ?_
 rintro u2 ⟨hl2,E2'⟩
 have EX1:=hD E2'
 clear hl2 E2' E1
 go_wp2_with fail
 go_ret
 refine⟨?_,EX1.out.bel⟩
 rw[←hb.out,show decide (n≤d)=decide (c≤0)by simp only[hS.out]]
 rfl
theorem level_any(f:Nat→Nat)(hf: ∀i,f i<256)(t:Nat)(w:World)(ht:t<Big):
  Rz 74 #[.agg (idF (fun i=>(f i:Int))), .agg (wcs t)] w (.int .i64 (lvI (numOf f) t)):=by
 unfold Rz
 have hN:=hD (numOf_lt f hf)
 have ht':=hD ht
 have HO:Hid (∀u,Calls Tryz.prog 120 #[.agg (idF (fun i=>(f i:Int)))] u fun e w'=>e= .returned (.agg (wcs (numOf f)))∧Below u.heap.size u w'):=fun u=>of32_any f hf u
 generalize numOf f=n at *
 have E1:Hid (EnvX w ((w.alloc (.cells (idF (fun i=>(f i:Int))) 26)).alloc (.cells (wcs t) 32)) [(w.heap.size+1,wo t),(w.heap.size,io (fun i=>(f i:Int)))]):=(EnvX.start w).two (io (fun i=>(f i:Int))) (wo t)
 have hb1:w.heap.size≤w.heap.size:=Nat.le_refl _
 have hb2:w.heap.size≤w.heap.size+1:=Nat.le_succ _
 have n21:Hid (w.heap.size+1≠w.heap.size):=by show _≠_;omega
 have hmf: ∀(fn:Fn)(first cap:Array Value)(w:World),(Instr.makeFunc fn first cap).run Tryz.prog w= .ok (.func fn first cap) w:=fun _ _ _ _=>rfl
 go_enter func74,ntmps74
 go_upto_region 1 with (fail)
 generalize (w.alloc (.cells (idF (fun i=>(f i:Int))) 26)).alloc (.cells (wcs t) 32)=w1 at *
 refine wp_region_Gx (w0:=w) [0,1] [2,3] [(w.heap.size+1,(wo (t))),(w.heap.size,(io (fun i=>(f i:Int))))] rfl E1.out ?_
 have hone:= @EnvC.one _ _ _ (E1.out)
 (refine wpG_load rfl rfl (w.heap.size) rfl 26 _ _ (fun u hu=>EnvC.box hu _ (io (fun i=>(f i:Int))) (mT mH)) underlying26 rfl (infoId _ (idF_size _)) ?_ (E1.out);intro K hK;go_big_quiet_op;go_big_quiet_on)
 refine qc rfl func120 (fun u _=>HO.out u) ⟨_,E1.out⟩ ?_
 clear hone
 refine wpG_nil ?_
 (refine(gOp_new (wo (0)) rfl (new_wide _) ?_);intro g1 hbg1 hfg1;intro K' hK';go_big_quiet_op;go_big_quiet_on)
 have ng1x0:Hid (w.heap.size+1≠g1):=hfg1 (w.heap.size+1,_) mH
 have ng1x1:Hid (w.heap.size≠g1):=hfg1 (w.heap.size,_) (mT mH)
 clear hfg1
 refine(gOp_store rfl (g1) (wcs (n)) rfl rfl hbg1 32 (wcs (0)) mH (wc_info _) ((wc_size _).trans (wc_size _).symm) (wc_one _) [(g1,(wo (n))),(w.heap.size+1,(wo (t))),(w.heap.size,(io (fun i=>(f i:Int))))] (mA ⟨.inl rfl,(mA ⟨.inr ⟨(mT mH),ng1x0.out⟩,(mA ⟨.inr ⟨(mT (mT mH)),ng1x1.out⟩,(fun _ h=>by cases h)⟩)⟩)⟩) ?_)
 rintro u3 ⟨hl2,E2'⟩
 have EX2:=hD E2'
 clear hl2 E2' E1
 have z5:Hid (EX2.out.box g1 _ mH=EX2.out.box g1 _ mH):=rfl
 clear z5
 go_wp2_with fail
 go_loopw [7] (fun l u=> ∃k:Nat,k≤32∧l= .int .i64 ((k:Int) - 1)∧Hid (EnvX w u [(g1,(wo (n))),(w.heap.size+1,(wo (t))),(w.heap.size,(io (fun i=>(f i:Int))))])∧Hid (∀j,j<k→n≤t/2^j)) (fun l _=>(31- intOf l).toNat)
 case atStart=>exact⟨0,by omega,rfl,EX2,fun j hj=>by omega⟩
 case round=>
  obtain⟨k,hk,rfl,hE,hall⟩:=hrel
  clear EX2
  have hk0:(-1:Int)≤(k:Int) - 1:=by omega
  have hk1:(k:Int) - 1≤31:=by omega
  by_cases h31:k<32
  · have h3:(k:Int) - 1<31:=by omega
    by_cases hr:n≤t/2^k
    · go_wp2_with (go_at_call 121;refine(reaches_any n t k g1 (w.heap.size+1) true _ hN ht' (by omega) (decide_eq_true hr) (hE.out.box g1 _ mH) (hE.out.box (w.heap.size+1) _ (mT mH))).mono ?_;rintro e w' ⟨rfl,hb⟩;have hE2:=hD (hE.out.below hb);clear hb)
      go_roundw
      case rel=>
       refine⟨k+1,by omega,by go_num,by assumption,fun j hj=>?_⟩
       by_cases hjk:j=k
       · subst hjk;exact hr
       · exact hall.out j (by omega)
      case measure=>simp[intOf];omega
    · go_wp2_with (go_at_call 121;refine(reaches_any n t k g1 (w.heap.size+1) false _ hN ht' (by omega) (decide_eq_false hr) (hE.out.box g1 _ mH) (hE.out.box (w.heap.size+1) _ (mT mH))).mono ?_;rintro e w' ⟨rfl,hb⟩;have hE2:=hD (hE.out.below hb);clear hb)
      go_ret
      exact⟨ret_num (by unfold lvI;rw[lvC_stop hk hall.out (.inr hr)]),by have h:=hE2.out.bel;exact h⟩
  · have h3: ¬(k:Int) - 1<31:=by omega
    go_wp2
    go_ret
    exact⟨ret_num (by unfold lvI;rw[lvC_stop hk hall.out (.inl (by omega))]),hE.out.bel⟩
structure Hd where
  height:Int
  prev:List Int
  links:List Int
  txs:List Int
  past:List Int
  work:Nat
  bits:Nat
  nonce:Nat
deriving DecidableEq
def noHd:Hd:=⟨0,z32,z32,z32,z32,0,0,0⟩
def okHd(h:Hd):Prop:=I64 h.height∧isId h.prev∧isId h.links∧isId h.txs∧isId h.past∧h.work<Big∧h.bits<4294967296∧h.nonce<18446744073709551616
def bytesW(a:Nat):List Int:=listF (bytesOf a)
theorem bytesW_len(a:Nat):(bytesW a).length=32:=listF_len _
theorem bytesW_byte(a:Nat):isB (bytesW a):=by
 intro x hx
 unfold bytesW listF at hx
 obtain⟨i,_,rfl⟩:=List.mem_map.1 hx
 have:=byteAt_lt a i
 unfold bytesOf
 omega
def numB(l:List Int):Nat:=numOf (fun i=>(l.getD i 0).toNat)
def bodyH(h:Hd):List Int:=putL h.height.toNat 4++(h.prev++(h.links++(h.txs++(h.past++(bytesW h.work++(putL h.bits 4++putL h.nonce 8))))))
def mayPut(h:Hd):Bool:=decide (0≤h.height∧h.height≤1048576)
def putH(h:Hd):List Int × Bool:=if mayPut h then (bodyH h,true)else ([],false)
def idH(h:Hd):List Int:=if mayPut h then sumL (5::bodyH h)else z32
def levelH(h:Hd):Int:=if mayPut h&& isC h.bits then if h.height=0 then 31 else lvI (numB (idH h)) (tv h.bits)else-1
def workH(h:Hd):Nat:=if isC h.bits then wkV (tv h.bits)else 0
def mayH(h:Hd):Bool:=decide (0≤levelH h)
def nonceAt(h:Hd)(k:Nat):Hd:={h with nonce:=(h.nonce+k) % 18446744073709551616}
def mineH(h:Hd)(tries:Int):Hd × Bool:=match (List.range (min tries 200).toNat).find? (fun k=>mayH (nonceAt h k))with
  |some k=>(nonceAt h k,true)
  |none=>(h,false)
theorem body_len{h:Hd}(hh:okHd h):(bodyH h).length=176:=by
 obtain⟨_,h1,h2,h3,h4,_,_,_⟩:=hh
 unfold bodyH
 simp only[lA,putL_len,bytesW_len,h1.1,h2.1,h3.1,h4.1]
theorem body_byte{h:Hd}(hh:okHd h):isB (bodyH h):=by
 obtain⟨_,h1,h2,h3,h4,_,_,_⟩:=hh
 unfold bodyH
 simp only[isB_append]
 exact⟨putL_byte _ _,h1.2,h2.2,h3.2,h4.2,bytesW_byte _,putL_byte _ _,putL_byte _ _⟩
def hdC(h:Hd):List Value:=[.int .i64 h.height]++((arrB 32 h.prev).toList++((arrB 32 h.links).toList++((arrB 32 h.txs).toList++((arrB 32 h.past).toList++((wcs h.work).toList++([.int .u32 h.bits]++[.int .u64 h.nonce]))))))
def hdA(h:Hd):Array Value:=(hdC h).toArray
def hdV(h:Hd):Value:= .agg (hdA h)
def lenH(h:Hd):Prop:=h.prev.length=32∧h.links.length=32∧h.txs.length=32∧h.past.length=32
theorem okHd.len{h:Hd}(k:okHd h):lenH h:=⟨k.2.1.1,k.2.2.1.1,k.2.2.2.1.1,k.2.2.2.2.1.1⟩
theorem hdC_len{h:Hd}(k:lenH h):(hdC h).length=135:=by
 unfold hdC
 simp only[lA,idA_list k.1,idA_list k.2.1,idA_list k.2.2.1,idA_list k.2.2.2,wcs_list,List.length_cons,List.length_nil]
theorem hdA_size{h:Hd}(k:lenH h):(hdA h).size=135:=by unfold hdA;rw[List.size_toArray,hdC_len k]
theorem hdC_one(h:Hd): ∀u∈hdC h,u.oneCell'=true:=by
 intro u hu
 unfold hdC at hu
 simp only[List.mem_append,mS]at hu
 rcases hu with rfl|e|e|e|e|e|rfl|rfl
 · rfl
 · exact cell_of_all (arrB_one 32 _) u e
 · exact cell_of_all (arrB_one 32 _) u e
 · exact cell_of_all (arrB_one 32 _) u e
 · exact cell_of_all (arrB_one 32 _) u e
 · exact cell_of_all (wc_one _) u e
 · rfl
 · rfl
theorem hdA_one(h:Hd):(hdA h).all (·.oneCell')=true:=by
 rw[Array.all_eq_true]
 intro i hi
 exact hdC_one h _ (show (hdA h)[i]∈(hdA h).toList from Array.mem_toList_iff.2 (Array.getElem_mem hi))
theorem aggHd:AggT 34 135:=⟨fun w=>by simp[isAgg,run_underlying underlying34],by kernel_rfl⟩
theorem infoHd(cs:Array Value)(h:cs.size=135):(Tryz.prog.info? 34).map (·.size)=some cs.size:=by rw[h];exact aggHd.size
theorem oneU32h: ∀w,(isAgg 27).run Tryz.prog w= .ok false w:=fun w=>by simp[isAgg,run_underlying underlying27]
theorem oneU64h: ∀w,(isAgg 24).run Tryz.prog w= .ok false w:=fun w=>by simp[isAgg,run_underlying underlying24]
theorem cells_mid{a b c:List Value}{i n:Nat}(ha:a.length=i)(hb:b.length=n):((a++(b++c)).drop i).take n=b:=by rw[List.drop_left' ha,List.take_left' hb]
theorem hdC_prev{h:Hd}(k:lenH h):((hdA h).toList.drop 1).take 32=(arrB 32 h.prev).toList:=by
 unfold hdA hdC
 exact cells_mid (by simp only[lA,idA_list k.1,idA_list k.2.1,idA_list k.2.2.1,List.length_cons,List.length_nil]) (idA_list k.1)
theorem hdC_links{h:Hd}(k:lenH h):((hdA h).toList.drop 33).take 32=(arrB 32 h.links).toList:=by
 unfold hdA hdC
 rw[←aA]
 exact cells_mid (by simp only[lA,idA_list k.1,idA_list k.2.1,idA_list k.2.2.1,List.length_cons,List.length_nil]) (idA_list k.2.1)
theorem hdC_txs{h:Hd}(k:lenH h):((hdA h).toList.drop 65).take 32=(arrB 32 h.txs).toList:=by
 unfold hdA hdC
 rw[←aA];rw[←aA]
 exact cells_mid (by simp only[lA,idA_list k.1,idA_list k.2.1,idA_list k.2.2.1,List.length_cons,List.length_nil]) (idA_list k.2.2.1)
theorem hdC_past{h:Hd}(k:lenH h):((hdA h).toList.drop 97).take 32=(arrB 32 h.past).toList:=by
 unfold hdA hdC
 rw[←aA];rw[←aA];rw[←aA]
 exact cells_mid (by simp only[lA,idA_list k.1,idA_list k.2.1,idA_list k.2.2.1,List.length_cons,List.length_nil]) (idA_list k.2.2.2)
theorem hdC_work{h:Hd}(k:lenH h):((hdA h).toList.drop 129).take 4=(wcs h.work).toList:=by
 unfold hdA hdC
 rw[←aA,←aA,←aA,←aA]
 exact cells_mid (by simp only[lA,idA_list k.1,idA_list k.2.1,idA_list k.2.2.1,idA_list k.2.2.2,wcs_list,List.length_cons,List.length_nil]) (wcs_list _)
theorem hdC_height(h:Hd):(hdA h)[0]?=some (.int .i64 h.height):=rfl
theorem cell_mid{a b:List Value}{v:Value}{i:Nat}(ha:a.length=i):(a++(v::b)).toArray[i]?=some v:=by
 rw[List.getElem?_toArray,List.getElem?_append_right (by omega),ha,Nat.sub_self]
 rfl
theorem hdC_bits{h:Hd}(k:lenH h):(hdA h)[133]?=some (.int .u32 h.bits):=by
 unfold hdA hdC
 rw[←aA,←aA,←aA,←aA,←aA]
 exact cell_mid (by simp only[lA,idA_list k.1,idA_list k.2.1,idA_list k.2.2.1,idA_list k.2.2.2,wcs_list,List.length_cons,List.length_nil])
theorem hdC_nonce{h:Hd}(k:lenH h):(hdA h)[134]?=some (.int .u64 h.nonce):=by
 unfold hdA hdC
 rw[←aA,←aA,←aA,←aA,←aA,←aA]
 exact cell_mid (by simp only[lA,idA_list k.1,idA_list k.2.1,idA_list k.2.2.1,idA_list k.2.2.2,wcs_list,List.length_cons,List.length_nil])
section
variable {w0 u:World}{M:Boxes}{g:Nat}{ty:TypeId}{h:Hd}
theorem box_hd(hu:EnvC w0 M u)(hm:(g,oc (hdA h) ty)∈M)(k:lenH h):(loadVar 34 ⟨g,0,none⟩).run Tryz.prog u= .ok (hdV h) u:=by
 have:=box_agg aggHd (k:=0) hu hm (hdC h) (hdC_len k) (by unfold hdA;rw[List.drop_zero,tL (by rw[hdC_len k];omega)])
 exact this
instance:Cell Tryz.prog (hdA h) 34 0 (hdV h) (lenH h):=⟨fun hu hm k=>box_hd hu hm k⟩
theorem src_hd_prev{h:Hd}(k:lenH h):((hdA h).toList.drop 1).take (h.prev.map u8v).length=h.prev.map u8v:=by
 have:=hdC_prev k
 rw[arrId_map k.1]at this
 rwa[lM,k.1]
theorem src_hd_links{h:Hd}(k:lenH h):((hdA h).toList.drop 33).take (h.links.map u8v).length=h.links.map u8v:=by
 have:=hdC_links k
 rw[arrId_map k.2.1]at this
 rwa[lM,k.2.1]
theorem src_hd_txs{h:Hd}(k:lenH h):((hdA h).toList.drop 65).take (h.txs.map u8v).length=h.txs.map u8v:=by
 have:=hdC_txs k
 rw[arrId_map k.2.2.1]at this
 rwa[lM,k.2.2.1]
theorem src_hd_past{h:Hd}(k:lenH h):((hdA h).toList.drop 97).take (h.past.map u8v).length=h.past.map u8v:=by
 have:=hdC_past k
 rw[arrId_map k.2.2.2]at this
 rwa[lM,k.2.2.2]
theorem box_hd_work(hu:EnvC w0 M u)(hm:(g,oc (hdA h) ty)∈M)(k:lenH h):(loadVar 32 ⟨g,129,none⟩).run Tryz.prog u= .ok (.agg (wcs h.work)) u:=by
 have:=box_agg aggWd (k:=129) hu hm _ (wcs_list _) (hdC_work k)
 rwa[agg_list]at this
instance:Cell Tryz.prog (hdA h) 32 129 (.agg (wcs h.work)) (lenH h):=⟨fun hu hm k=>box_hd_work hu hm k⟩
theorem box_hd_height(hu:EnvC w0 M u)(hm:(g,oc (hdA h) ty)∈M):(loadVar 3 ⟨g,0,none⟩).run Tryz.prog u= .ok (.int .i64 h.height) u:=
 run_load_one oneInt u (box_cell hu hm (hdC_height h))
instance:Cell Tryz.prog (hdA h) 3 0 (.int .i64 h.height) (True):=⟨fun hu hm k=>box_hd_height hu hm⟩
theorem box_hd_bits(hu:EnvC w0 M u)(hm:(g,oc (hdA h) ty)∈M)(k:lenH h):(loadVar 27 ⟨g,133,none⟩).run Tryz.prog u= .ok (.int .u32 h.bits) u:=
 run_load_one oneU32h u (box_cell hu hm (hdC_bits k))
instance:Cell Tryz.prog (hdA h) 27 133 (.int .u32 h.bits) (lenH h):=⟨fun hu hm k=>box_hd_bits hu hm k⟩
theorem box_hd_nonce(hu:EnvC w0 M u)(hm:(g,oc (hdA h) ty)∈M)(k:lenH h):(loadVar 24 ⟨g,134,none⟩).run Tryz.prog u= .ok (.int .u64 h.nonce) u:=
 run_load_one oneU64h u (box_cell hu hm (hdC_nonce k))
instance:Cell Tryz.prog (hdA h) 24 134 (.int .u64 h.nonce) (lenH h):=⟨fun hu hm k=>box_hd_nonce hu hm k⟩
end
section
variable {a:Act}{dst:Option Tmp}{x y z:Operand}{ty:TypeId}{pos:String}{after:Array Edge}{gd:Option (Nat × Bool)}
theorem fieldHd_op{k off:Nat}(hk:([(0,0),(1,1),(2,33),(3,65),(4,97),(5,129),(6,133),(7,134)]:List (Nat × Nat)).lookup k=some off){ad:Addr}(u:World)(hx:a.eval x= .pointer (some ad)):
  (execOp a.eval ⟨dst, .fieldAddr 34 x k,ty,pos,after,gd⟩).run Tryz.prog u= .ok (.value (.pointer (some (ad.add off)))) u:=by
 unfold execOp
 simp only[hx]
 rcases k with _|_|_|_|_|_|_|_|k
 all_goals first|(cases hk;go_simp)|cases hk
instance:FldT Tryz.prog 34 [(0,0),(1,1),(2,33),(3,65),(4,97),(5,129),(6,133),(7,134)]:=⟨fun h u k=>fieldHd_op h u k⟩
end
def eqH(a b:Hd):Bool:=decide (a=b)
theorem Hd.ext'{a b:Hd}(h0:a.height=b.height)(h1:a.prev=b.prev)(h2:a.links=b.links)(h3:a.txs=b.txs)(h4:a.past=b.past)(h5:a.work=b.work)(h6:a.bits=b.bits)(h7:a.nonce=b.nonce):a=b:=by
 cases a
 cases b
 simp only at h0 h1 h2 h3 h4 h5 h6 h7
 subst h0 h1 h2 h3 h4 h5 h6 h7
 rfl
theorem fieldsHd:(Tryz.prog.fieldsOf 34).toList.map (fun f=>(f.name== "_",f.type,f.offset))=[(false,3,0),(false,26,1),(false,26,33),(false,26,65),(false,26,97),(false,32,129),(false,27,133),(false,24,134)]:=by kernel_rfl
theorem run_equal_hd (a b:Hd) (ha:okHd a) (hb:okHd b) (w:World):(Op.equal 34 (hdV a) (hdV b)).run Tryz.prog w= .ok (eqH a b) w:=by
 unfold Op.equal hdV
 have h:=run_equalIn_struct (P:=Tryz.prog) w 9999 34 (hdA a) (hdA b) (by kernel_rfl) (by kernel_rfl)
 refine Eq.trans h ?_
 have hf:=fieldsHd
 generalize (Tryz.prog.fieldsOf 34).toList=fs at hf ⊢
 have hl:fs.length=8:=by simpa using congrArg List.length hf
 obtain⟨f0,f1,f2,f3,f4,f5,f6,f7,rfl⟩: ∃f0 f1 f2 f3 f4 f5 f6 f7,fs=[f0,f1,f2,f3,f4,f5,f6,f7]:=by
  match fs,hl with
  |[a,b,c,d,e,f,g,h],_=>exact⟨a,b,c,d,e,f,g,h,rfl⟩
 simp only[List.map_cons,List.map_nil,List.cons.injEq,Prod.mk.injEq,beq_eq_false_iff_ne,and_true]at hf
 obtain⟨⟨n0,t0,o0⟩,⟨n1,t1,o1⟩,⟨n2,t2,o2⟩,⟨n3,t3,o3⟩,⟨n4,t4,o4⟩,⟨n5,t5,o5⟩,⟨n6,t6,o6⟩,n7,t7,o7⟩:=hf
 have la:=ha.len
 have lb:=hb.len
 have p0: ∀t:Hd,lenH t→(part 3 (hdA t) 0).run Tryz.prog w= .ok (.int .i64 t.height) w:=fun t kt=>run_part_plain (P:=Tryz.prog) w (by kernel_rfl) (hdC_height t)
 have p1: ∀t:Hd,lenH t→(part 26 (hdA t) 1).run Tryz.prog w= .ok (.agg (arrB 32 t.prev)) w:=fun t kt=>run_part_agg aggIdT (by have:=ext_list (hdC_prev kt);rwa[Array.toArray_toList]at this) w
 have p2: ∀t:Hd,lenH t→(part 26 (hdA t) 33).run Tryz.prog w= .ok (.agg (arrB 32 t.links)) w:=fun t kt=>run_part_agg aggIdT (by have:=ext_list (hdC_links kt);rwa[Array.toArray_toList]at this) w
 have p3: ∀t:Hd,lenH t→(part 26 (hdA t) 65).run Tryz.prog w= .ok (.agg (arrB 32 t.txs)) w:=fun t kt=>run_part_agg aggIdT (by have:=ext_list (hdC_txs kt);rwa[Array.toArray_toList]at this) w
 have p4: ∀t:Hd,lenH t→(part 26 (hdA t) 97).run Tryz.prog w= .ok (.agg (arrB 32 t.past)) w:=fun t kt=>run_part_agg aggIdT (by have:=ext_list (hdC_past kt);rwa[Array.toArray_toList]at this) w
 have p5: ∀t:Hd,lenH t→(part 32 (hdA t) 129).run Tryz.prog w= .ok (.agg (wcs t.work)) w:=fun t kt=>run_part_agg aggWd (by have:=ext_list (hdC_work kt);rwa[Array.toArray_toList]at this) w
 have p6: ∀t:Hd,lenH t→(part 27 (hdA t) 133).run Tryz.prog w= .ok (.int .u32 t.bits) w:=fun t kt=>run_part_plain (P:=Tryz.prog) w (by kernel_rfl) (hdC_bits kt)
 have p7: ∀t:Hd,lenH t→(part 24 (hdA t) 134).run Tryz.prog w= .ok (.int .u64 t.nonce) w:=fun t kt=>run_part_plain (P:=Tryz.prog) w (by kernel_rfl) (hdC_nonce kt)
 have e0:=run_equalIn_int (P:=Tryz.prog) w 9998 3 .i64 .i64 a.height b.height underlying3
 have e1:=run_equalIn_id 9997 a.prev b.prev la.1 lb.1 w
 have e2:=run_equalIn_id 9997 a.links b.links la.2.1 lb.2.1 w
 have e3:=run_equalIn_id 9997 a.txs b.txs la.2.2.1 lb.2.2.1 w
 have e4:=run_equalIn_id 9997 a.past b.past la.2.2.2 lb.2.2.2 w
 have e5:=run_equalIn_wide 9997 a.work b.work ha.2.2.2.2.2.1 hb.2.2.2.2.2.1 w
 have e6:=run_equalIn_int (P:=Tryz.prog) w 9998 27 .u32 .u32 a.bits b.bits underlying27
 have e7:=run_equalIn_int (P:=Tryz.prog) w 9998 24 .u64 .u64 a.nonce b.nonce underlying24
 have hd:eqH a b=((a.height==b.height) && (eqL a.prev b.prev&& (eqL a.links b.links&& (eqL a.txs b.txs&& (eqL a.past b.past&& (eqN a.work b.work&& (((a.bits:Int)==(b.bits:Int)) && ((a.nonce:Int)==(b.nonce:Int))))))))):=by
  unfold eqH eqL eqN
  rw[Bool.eq_iff_iff]
  simp only[decide_eq_true_eq,Bool.and_eq_true,beq_iff_eq,Int.natCast_inj]
  exact⟨fun h=>by subst h;exact⟨rfl,rfl,rfl,rfl,rfl,rfl,rfl,rfl⟩,fun h=>Hd.ext' h.1 h.2.1 h.2.2.1 h.2.2.2.1 h.2.2.2.2.1 h.2.2.2.2.2.1 h.2.2.2.2.2.2.1 h.2.2.2.2.2.2.2⟩
 rw[hd]
 rw[eqFields_step (a:= .int .i64 a.height) (b:= .int .i64 b.height) n0 (by rw[t0,o0];exact p0 a la) (by rw[t0,o0];exact p0 b lb) (by rw[t0];exact e0)]
 cases hc0:(a.height==b.height)with
 |false=>rfl
 | true =>
  rw[if_pos rfl,eqFields_step (a:= .agg (arrB 32 a.prev)) (b:= .agg (arrB 32 b.prev)) n1 (by rw[t1,o1];exact p1 a la) (by rw[t1,o1];exact p1 b lb) (by rw[t1];exact e1)]
  cases hc1:eqL a.prev b.prev with
  |false=>rfl
  | true =>
   rw[if_pos rfl,eqFields_step (a:= .agg (arrB 32 a.links)) (b:= .agg (arrB 32 b.links)) n2 (by rw[t2,o2];exact p2 a la) (by rw[t2,o2];exact p2 b lb) (by rw[t2];exact e2)]
   cases hc2:eqL a.links b.links with
   |false=>rfl
   | true=>
    rw[if_pos rfl,eqFields_step (a:= .agg (arrB 32 a.txs)) (b:= .agg (arrB 32 b.txs)) n3 (by rw[t3,o3];exact p3 a la) (by rw[t3,o3];exact p3 b lb) (by rw[t3];exact e3)]
    cases hc3:eqL a.txs b.txs with
    |false=>rfl
    | true=>
     rw[if_pos rfl,eqFields_step (a:= .agg (arrB 32 a.past)) (b:= .agg (arrB 32 b.past)) n4 (by rw[t4,o4];exact p4 a la) (by rw[t4,o4];exact p4 b lb) (by rw[t4];exact e4)]
     cases hc4:eqL a.past b.past with
     |false=>rfl
     | true=>
      rw[if_pos rfl,eqFields_step (a:= .agg (wcs a.work)) (b:= .agg (wcs b.work)) n5 (by rw[t5,o5];exact p5 a la) (by rw[t5,o5];exact p5 b lb) (by rw[t5];exact e5)]
      cases hc5:eqN a.work b.work with
      |false=>rfl
      | true=>
       rw[if_pos rfl,eqFields_step (a:= .int .u32 a.bits) (b:= .int .u32 b.bits) n6 (by rw[t6,o6];exact p6 a la) (by rw[t6,o6];exact p6 b lb) (by rw[t6];exact e6)]
       cases hc6:((a.bits:Int)==(b.bits:Int))with
       |false=>rfl
       | true=>
        rw[if_pos rfl,eqFields_step (a:= .int .u64 a.nonce) (b:= .int .u64 b.nonce) n7 (by rw[t7,o7];exact p7 a la) (by rw[t7,o7];exact p7 b lb) (by rw[t7];exact e7)]
        cases hc7:((a.nonce:Int)==(b.nonce:Int))with
        |false=>rfl
        |true=>
         rfl
theorem run_eql_hd(s t:Hd)(hs:okHd s)(ht:okHd t)(w:World):(binOp .eql 34 (hdV s) (hdV t)).run Tryz.prog w= .ok (.bool (eqH s t)) w:=by
 have h:=run_equal_hd s t hs ht w
 unfold hdV at *
 simp only[binOp]
 simp[h]
theorem guardHd:Tryz.prog.eqGuardType Tryz.prog.depth 34=false:=by kernel_rfl
section
variable {a:Act}{dst:Option Tmp}{x y:Operand}{ty:TypeId}{pos:String}{after:Array Edge}{gd:Option (Nat × Bool)}
theorem eqlHd_op{s t:Hd}{b:Bool}(hs:okHd s)(ht:okHd t)(hb:eqH s t=b)(u:World)(hx:a.eval x=hdV s)(hy:a.eval y=hdV t):
  (execOp a.eval ⟨dst, .binOp .eql 34 x y 34,ty,pos,after,gd⟩).run Tryz.prog u= .ok (.value (.bool b)) u:=by
 have h:=run_eql_hd s t hs ht u
 have hg:=run_eqGuard_agg (P:=Tryz.prog) u .eql 34 x y (hdA s) (hdA t) guardHd
 rw[←hb]
 unfold hdV at *
 unfold execOp
 simp only[hx,hy,Sem.run_bind,hg,Result.andThen_ok,h,Sem.run_pure]
end
theorem zero_hdA:hdA noHd=zeroCells34:=by kernel_rfl
section
variable {dst:Option Tmp}{ty:TypeId}{pos:String}{after:Array Edge}{gd:Option (Nat × Bool)}
theorem new_hd(a:Act):NewAt Tryz.prog ⟨dst, .alloc 34,ty,pos,after,gd⟩ a (.cells (hdA noHd) 34 (0,0)):=fun u=>by
 rw[zero_hdA]
 go_simp
end
theorem built_hd(h:Hd)(k:lenH h):Tryz.prog.built 34 [(0, .int .i64 h.height),(1,idv h.prev),(2,idv h.links),(3,idv h.txs),(4,idv h.past),(5, .agg (wcs h.work)),(6, .int .u32 h.bits),(7, .int .u64 h.nonce)]=some (hdA h):=by
 have z1:(arrB 32 h.prev).size=32:=arrB_size _ _ (by rw[k.1];omega)
 have z2:(arrB 32 h.links).size=32:=arrB_size _ _ (by rw[k.2.1];omega)
 have z3:(arrB 32 h.txs).size=32:=arrB_size _ _ (by rw[k.2.2.1];omega)
 have z4:(arrB 32 h.past).size=32:=arrB_size _ _ (by rw[k.2.2.2];omega)
 have z5:=wc_size h.work
 have e:cellsOfP [(0, .int .i64 h.height),(1,idv h.prev),(2,idv h.links),(3,idv h.txs),(4,idv h.past),(5, .agg (wcs h.work)),(6, .int .u32 h.bits),(7, .int .u64 h.nonce)]=hdC h:=by simp[cellsOfP,hdC,idv,Value.cells]
 have:=built_struct (t:=34) (n:=135) underlying34 (by kernel_rfl) (places:=[(0,1),(1,32),(33,32),(65,32),(97,32),(129,4),(133,1),(134,1)]) (by kernel_rfl) (ps:=[(0, .int .i64 h.height),(1,idv h.prev),(2,idv h.links),(3,idv h.txs),(4,idv h.past),(5, .agg (wcs h.work)),(6, .int .u32 h.bits),(7, .int .u64 h.nonce)]) (by
  refine⟨?_,?_,?_,?_,?_,?_,?_,?_,trivial⟩
  · rfl
  · show some (1,32)=some (0+1,(arrB 32 h.prev).size)
    rw[z1]
  · show some (33,32)=some (0+1+(arrB 32 h.prev).size,(arrB 32 h.links).size)
    rw[z1,z2]
  · show some (65,32)=some (0+1+(arrB 32 h.prev).size+(arrB 32 h.links).size,(arrB 32 h.txs).size)
    rw[z1,z2,z3]
  · show some (97,32)=some (0+1+(arrB 32 h.prev).size+(arrB 32 h.links).size+(arrB 32 h.txs).size,(arrB 32 h.past).size)
    rw[z1,z2,z3,z4]
  · show some (129,4)=some (0+1+(arrB 32 h.prev).size+(arrB 32 h.links).size+(arrB 32 h.txs).size+(arrB 32 h.past).size,(wcs h.work).size)
    rw[z1,z2,z3,z4,z5]
  · show some (133,1)=some (0+1+(arrB 32 h.prev).size+(arrB 32 h.links).size+(arrB 32 h.txs).size+(arrB 32 h.past).size+(wcs h.work).size,1)
    rw[z1,z2,z3,z4,z5]
  · show some (134,1)=some (0+1+(arrB 32 h.prev).size+(arrB 32 h.links).size+(arrB 32 h.txs).size+(arrB 32 h.past).size+(wcs h.work).size+1,1)
    rw[z1,z2,z3,z4,z5]) (by rw[e,hdC_len k])
 rw[this,e]
 rfl
theorem bytes_any(a:Nat)(w:World):
  Rz 111 #[.agg (wcs a)] w (.agg (idF (bytesOf a))):=by
 unfold Rz
 go_enter func111,ntmps111
 go_wp2_with fail
 go_loopw [6] (fun i u=> ∃k:Nat,k≤32∧i= .int .i64 k∧Below w.heap.size w u∧Hid (Row u w.heap.size 32 (wcs a)∧Row u (w.heap.size+1) 26 (arrB 32 [])∧Row u (w.heap.size+1+1) 26 (idF (fun i=>if i<k then bytesOf a i else 0)))) (fun i _=>32- (intOf i).toNat)
 case atStart=>
  refine⟨0,by omega,rfl,by go_grown,((Row.new w 32 _).alloc _).alloc _,(Row.newAt (by simp) 26 _).alloc _,?_⟩
  have e:idF (fun i=>if i<0 then bytesOf a i else 0)=arrB 32 []:=by rw[idF_zero];exact idF_congr _ _ (fun i _=>by simp)
  rw[e]
  exact Row.newAt (by simp) 26 _
 case round=>
  obtain⟨k,hk,rfl,hbl,hrows⟩:=hrel
  obtain⟨r0,r1,r2⟩:=hrows.out
  by_cases hlt:k<32
  · have hk0:(0:Int)≤(k:Int):=by omega
    have hk4:(k:Int)<32:=by omega
    have e0:wr.cell? ⟨w.heap.size,3- k/8,none⟩=some (.int .u64 (W a (3- k/8))):=(r0.cell _).trans (wc_get a _ (by omega))
    have e2:=(r2.cell k).trans (idF_get _ k hlt)
    have f2:=r2.frozen k
    have R0:=hD r0
    have R1:=hD r1
    have R2:=hD r2
    have hput:Hid ((idF (fun i=>if i<k then bytesOf a i else 0)).setIfInBounds k (.int .u8 (bytesOf a k))=idF (fun i=>if i<k+1 then bytesOf a i else 0)):=by
     show _=_
     refine idF_put _ _ k _ hlt (by simp) (fun i _ hne=>?_)
     by_cases hik:i<k
     · rw[if_pos hik,if_pos (by omega)]
     · rw[if_neg hik,if_neg (by omega)]
    have q0:0≤3- (k:Int) /8:=by omega
    have q1:3- (k:Int) /8<4:=by omega
    have q2:(0:Int)≤7- (k:Int) % 8:=by omega
    have q3:7- (k:Int) % 8<8:=by omega
    have hv:Hid ((W a (3- k/8):Int) /2^ (8*(7- k % 8)) % 256=bytesOf a k):=by
     show _=_
     unfold bytesOf
     rw[←byte_word a k hlt,shrW]
     omega
    have hW:=W_lt a (3- k/8)
    clear r0 r1 r2 hrows
    generalize W a (3- k/8)=x at *
    generalize (if k<k then bytesOf a k else 0)=z at *
    have hx0:(0:Int)≤(x:Int):=by omega
    go_wp2_with (go_at_call 170;refine(ofbyte_any _ _ (by omega) (by omega)).mono ?_;rintro e w' ⟨rfl,rfl⟩)
    go_roundw
    case rel=>
     refine⟨k+1,by omega,by go_num,hbl.setCell (by simp;omega) _,R0.out.farAt (by omega) _,R1.out.farAt (by omega) _,?_⟩
     rw[←hput.out,←hv.out]
     exact R2.out.put k _
    case measure=>simp[intOf];omega
  · obtain rfl:k=32:=by omega
    have hE:idF (fun i=>if i<32 then bytesOf a i else 0)=idF (bytesOf a):=idF_congr _ _ (fun i hi=>by rw[if_pos hi])
    rw[hE]at r2
    have hsz:=hD (idF_size (bytesOf a))
    have hz0:=hD (arrB_size 32 [] (by simp))
    have ho:=hD (idF_one (bytesOf a))
    have R1:Hid (wr.heap[w.heap.size+1]?=some (.cells (arrB 32 []) 26 (0,0))):=r1
    have R2:Hid (wr.heap[w.heap.size+1+1]?=some (.cells (idF (bytesOf a)) 26 (0,0))):=r2
    clear r0 r1 r2 hrows hE
    generalize hE2:idF (bytesOf a)=cs at *
    have HE:=hD hE2
    clear hE2
    generalize arrB 32 []=zs at *
    go_wp2_with (first
     |((with_reducible refine wpList_load_row (o:=⟨some 23,_,_,_,_,_⟩) ?_ 26 (.tmp 3) ?_ (w.heap.size+1+1) ?_ 26 cs (0,0) _ R2.out underlying26 ?_ (infoId cs hsz.out) ?_);(rfl);(rfl);(rfl);(rfl))
     |((with_reducible refine wpList_store_row (o:=⟨none, .store 26 _ _,_,_,_,_⟩) ?_ 26 (.tmp 2) (.tmp 23) ?_ (w.heap.size+1) cs ?_ ?_ 26 zs R1.out (infoId cs hsz.out) (by rw[hz0.out,hsz.out]) ho.out ?_);(rfl);(rfl);(rfl);(rfl))
     |((with_reducible refine bodyPost_ret (v:= .agg cs) ?_ ?_ ?_);(exact results_cell_row (p:=2) (ty:=26) results111 _ _ (w.heap.size+1) 26 cs (0,0) _ rfl (setRow_heap _ _ zs cs 26 (0,0) R1.out) underlying26 rfl (infoId cs hsz.out));(rfl)))
    exact⟨by rw[HE.out],below_setRow hbl (by omega) _⟩
section
variable {a:Act}{dst:Option Tmp}{x:Operand}{ty:TypeId}{pos:String}{after:Array Edge}{gd:Option (Nat × Bool)}
theorem conv32_op{m:Nat}{k:Int}(u:World)(h:IntKind.u64.wrap k=(m:Int))(hx:a.eval x= .int .u32 k):
  (execOp a.eval ⟨dst, .convert 27 24 x,ty,pos,after,gd⟩).run Tryz.prog u= .ok (.value (.int .u64 (m:Int))) u:=by
 rw[←h]
 unfold execOp
 simp only[hx]
 go_simp
end
section
variable {a:Act}{dst:Option Tmp}{x y:Operand}{ty:TypeId}{pos:String}{after:Array Edge}{gd:Option (Nat × Bool)}
end
theorem arr_idF{l:List Int}(hl:l.length=32)(hb:isB l):arrB 32 l=idF (fun i=>(((l.getD i 0).toNat:Nat):Int)):=by
 unfold idF
 congr 1
 apply List.ext_getElem?
 intro i
 unfold listF
 by_cases h1:i<32
 · rw[List.getElem?_map,List.getElem?_range h1,gE (by omega)]
   have:=hb _ (List.getElem_mem (show i<l.length by omega))
   show some _=some (((l.getD i 0).toNat:Nat):Int)
   rw[gD,gE (by omega)]
   simp only[Option.getD_some]
   congr 1
   omega
 · rw[gN (by omega),gN (by rw[lM,List.length_range];omega)]
theorem byte_toNat{l:List Int}(hb:isB l)(i:Nat):(l.getD i 0).toNat<256:=by
 rw[gD]
 cases h:l[i]? with
 |none=>exact(by decide:(0:Int).toNat<256)
 |some x=>
  have:=hb x (List.mem_of_getElem? h)
  simp only[Option.getD_some]
  omega
theorem id_len(h:Hd):(idH h).length=32:=by
 unfold idH
 split
 · exact sumL_len _
 · rfl
theorem id_byte(h:Hd):isB (idH h):=by
 unfold idH
 split
 · exact sumL_byte _
 · intro y hy
   rw[List.eq_of_mem_replicate hy]
   decide
theorem hbuilt_w0:Tryz.prog.built 32 []=some (wcs 0):=by kernel_rfl
theorem okHd_nonce{h:Hd}(hh:okHd h)(k:Nat):okHd (nonceAt h k):=⟨hh.1,hh.2.1,hh.2.2.1,hh.2.2.2.1,hh.2.2.2.2.1,hh.2.2.2.2.2.1,hh.2.2.2.2.2.2.1,Nat.mod_lt _ (by omega)⟩
theorem mine_some{h:Hd}{tries:Int}{k:Nat}(hk:k<(min tries 200).toNat)(h0: ∀j,j<k→mayH (nonceAt h j)=false)(h1:mayH (nonceAt h k)=true):mineH h tries=(nonceAt h k,true):=by
 unfold mineH
 have e:(List.range (min tries 200).toNat).find? (fun k=>mayH (nonceAt h k))=some k:=List.find?_range_eq_some.2 ⟨h1,List.mem_range.2 hk,fun j hj=>by simp[h0 j hj]⟩
 rw[e]
theorem mine_none{h:Hd}{tries:Int}(h0: ∀j,j<(min tries 200).toNat→mayH (nonceAt h j)=false):mineH h tries=(h,false):=by
 unfold mineH
 have e:(List.range (min tries 200).toNat).find? (fun k=>mayH (nonceAt h k))=none:=List.find?_range_eq_none.2 (fun j hj=>by simp[h0 j hj])
 rw[e]
section
variable {a:Act}{dst:Option Tmp}{x y:Operand}{ty:TypeId}{pos:String}{after:Array Edge}{gd:Option (Nat × Bool)}
end
open Go.ChangeShapes Go.WideShapes Go.ChangeAt Go.RowKit Go.Deep
theorem hcellsWide:Tryz.prog.cellsOf 32=4:=by kernel_rfl
theorem hcellsInt:Tryz.prog.cellsOf 3=1:=by kernel_rfl
theorem hcellsHd:Tryz.prog.cellsOf 34=135:=by kernel_rfl
theorem hcells32:Tryz.prog.cellsOf 27=1:=by kernel_rfl
theorem hcells64:Tryz.prog.cellsOf 24=1:=by kernel_rfl
section
variable {H:Type}{enc:TypeId × Value→H}{W:World}{base:Nat}{spare:Nat→Bool}{held:Bool}{fuel:Nat}{cs:List Value}{x:DataW H × List MemPlace}
theorem hwide_cells(h:DataW.trod enc Tryz.prog W base spare held fuel 32 cs=some x): ∃n:Nat,n<Big∧cs=(wcs n).toList:=by
 obtain⟨ys,m,_,_,hlen,hl,hall⟩:=DataW.trod_array underlying32 h
 rw[hcellsWide]at hlen
 have hc: ∀i,i<4→ ∃n:Int,cs[i]?=some (.int .u64 n)∧0≤n∧n<18446744073709551616:=by
  intro i hi
  have h1:=hall i hi
  rw[gE (by omega:i<ys.length)]at h1
  obtain⟨n,e,_,wf⟩:=DataW.trod_int underlying24 h1
  refine⟨n,?_,?_⟩
  · rw[hcells64,Nat.mul_one]at e
    have hi':i<cs.length:=by omega
    simp only[List.drop_eq_getElem_cons hi',List.take_succ_cons,List.take_zero,List.cons.injEq,and_true]at e
    rw[gE hi',e]
  · have:=bounds_u64 wf
    omega
 obtain⟨a,e0,a0,a1⟩:=hc 0 (by omega)
 obtain⟨b,e1,b0,b1⟩:=hc 1 (by omega)
 obtain⟨c,e2,c0,c1⟩:=hc 2 (by omega)
 obtain⟨d,e3,d0,d1⟩:=hc 3 (by omega)
 have hcs:cs.toArray=arrW 4 [a,b,c,d]:=by
  apply arrW_ext
  · simp
  · simpa using hlen
  · intro i hi
    rw[List.getElem?_toArray]
    rcases i with _|_|_|_|i
    · exact e0
    · exact e1
    · exact e2
    · exact e3
    · omega
 obtain⟨n,hn,hw⟩:=wl_of [a,b,c,d] rfl (by
  intro k
  rcases k with _|_|_|_|k
  · exact⟨a0,a1⟩
  · exact⟨b0,b1⟩
  · exact⟨c0,c1⟩
  · exact⟨d0,d1⟩
  · simp)
 refine⟨n,hn,?_⟩
 have h2:cs.toArray=wcs n:=by rw[hcs,hw];rfl
 rw[←h2]
theorem hd_cells(h:DataW.trod enc Tryz.prog W base spare held fuel 34 cs=some x): ∃t:Hd,okHd t∧cs=hdC t:=by
 obtain⟨xs,n,_,_,hl,hlen,hf⟩:=DataW.trod_struct underlying34 h
 rw[hcellsHd]at hl
 obtain⟨y0,y1,y2,y3,y4,y5,y6,y7,rfl⟩: ∃y0 y1 y2 y3 y4 y5 y6 y7,xs=[y0,y1,y2,y3,y4,y5,y6,y7]:=by
  match xs,hlen with
  |[a,b,c,d,e,f,g,h],_=>exact⟨a,b,c,d,e,f,g,h,rfl⟩
 obtain⟨i0,e0,_,w0⟩:=DataW.trod_int underlying3 (by simpa using hf 0 _ rfl)
 obtain⟨p1,l1,b1,e1⟩:=id_cells (by simpa using hf 1 _ rfl)
 obtain⟨p2,l2,b2,e2⟩:=id_cells (by simpa using hf 2 _ rfl)
 obtain⟨p3,l3,b3,e3⟩:=id_cells (by simpa using hf 3 _ rfl)
 obtain⟨p4,l4,b4,e4⟩:=id_cells (by simpa using hf 4 _ rfl)
 obtain⟨n5,hn5,e5⟩:=hwide_cells (by simpa using hf 5 _ rfl)
 obtain⟨i6,e6,_,w6⟩:=DataW.trod_int underlying27 (by simpa using hf 6 _ rfl)
 obtain⟨i7,e7,_,w7⟩:=DataW.trod_int underlying24 (by simpa using hf 7 _ rfl)
 obtain⟨n6,rfl⟩: ∃n:Nat,i6=(n:Int):=Int.eq_ofNat_of_zero_le (bounds_u32 w6).1
 obtain⟨n7,rfl⟩: ∃n:Nat,i7=(n:Int):=Int.eq_ofNat_of_zero_le (bounds_u64 w7).1
 have hi: ∀p:List Int,p.length=32→p.map u8v=(arrB 32 p).toList:=fun p hp=>(arrId_map hp).symm
 simp only[hcellsInt,hcells32,hcells64,hcellsWide,cellsOfId,hi p1 l1,hi p2 l2,hi p3 l3,hi p4 l4]at e0 e1 e2 e3 e4 e5 e6 e7
 refine⟨⟨i0,p1,p2,p3,p4,n5,n6,n7⟩,⟨bounds_i64 w0,⟨l1,b1⟩,⟨l2,b2⟩,⟨l3,b3⟩,⟨l4,b4⟩,hn5,by have:=(bounds_u32 w6).2;show n6<_;omega,by have:=(bounds_u64 w7).2;show n7<_;omega⟩,?_⟩
 unfold hdC
 simp only
 rw[←e0,←e1,←e2,←e3,←e4,←e5,←e6,←e7]
 have j: ∀(o k:Nat)(r:List Value),cs.drop (o+k)=r→(cs.drop o).take k++r=cs.drop o:=fun o k r hr=>by rw[←hr,←List.drop_drop,List.take_append_drop]
 have j7:(cs.drop 134).take 1=cs.drop 134:=tL (by rw[List.length_drop];omega)
 rw[j7,j 133 1 _ rfl,j 129 4 _ rfl,j 97 32 _ rfl,j 65 32 _ rfl,j 33 32 _ rfl,←List.drop_one,j 1 32 _ rfl]
 exact(List.take_append_drop 1 cs).symm
end
section
variable {H:Type}{enc:TypeId × Value→H}{W:World}{base:Nat}{v:Value}{d:DataW H}{p:List MemPlace}
end
theorem zTot_size:(totA zTot).size=37:=by decide+kernel
theorem built_totH{h:List Int}(hh:h.length=32):Tryz.prog.built 61 [(0,idv h)]=some (totA ⟨h,0,0⟩):=by
 have hs:(arrB 32 h).size=32:=arrB_size _ _ (by omega)
 have hz:=elTot.info
 cases hq:Tryz.prog.info? 61 with
 |none=>rw[hq]at hz;cases hz
 |some it=>
  rw[hq]at hz
  simp only[Option.map_some,Option.some.injEq,Prod.mk.injEq]at hz
  have hp:(Tryz.prog.fieldsOf 61).toList.mapM (fun f=>(Tryz.prog.info? f.type).map fun i=>(f.offset,i.size))=some [(0,32),(32,4),(36,1)]:=by kernel_rfl
  have hu:Tryz.prog.underlying 61=some (.struct (Tryz.prog.fieldsOf 61)):=by kernel_rfl
  unfold Program.built
  simp only[hq,hu,hz.1,hp]
  obtain⟨r,hr,hl⟩:=fill_seq (place:=(([(0,32),(32,4),(36,1)]:List (Nat × Nat)).toArray[·]?)) [(0,idv h)] 0 (totA zTot) ⟨by show some (0,32)=some (0,(arrB 32 h).size);rw[hs],trivial⟩ (by rw[zTot_size];simp[cellsOfP,idv,Value.cells,hs])
  refine Eq.trans hr ?_
  congr 1
  apply Array.ext'
  rw[hl]
  have e:cellsOfP [(0,idv h)]=(arrB 32 h).toList:=by simp[cellsOfP,idv,Value.cells]
  rw[e,List.take_zero,List.nil_append,Nat.zero_add,idA_list hh]
  show _=(arrB 32 h).toList++((wcs 0).toList++[.int .i64 0])
  congr 1
theorem TotsIn.up{w w':World}{A:Option Addr}{l:List Tot}(h:TotsIn w w.heap.size A l)(hb:Below w.heap.size w w'):TotsIn w' w'.heap.size A l:=CellsIn.up h hb
theorem TotsIn.nil(w:World)(B:Nat)(A:Option Addr):TotsIn w B A []:=fun h=>absurd h (by decide)
def OwnT(w:World)(B:Nat)(v:Value)(l:List Tot):Prop:=w.ownsRow B 61 37 v l.length (l.map totC).flatten
theorem OwnT.nil(w:World)(B:Nat):OwnT w B (.slice none 0 0) []:=World.ownsRow_nil _ _ _ _
theorem flatT_len{l:List Tot}(h:okTs l):(l.map totC).flatten.length=l.length*37:=by rw[(rowsT h).flat_len,lM]
def intN(m:Nat):Value:= .int .i64 (m:Int)
def OwnZ(w:World)(B:Nat)(v:Value)(l:List Nat):Prop:=w.ownsRow B 3 1 v l.length (l.map intN)
theorem OwnZ.nil(w:World)(B:Nat):OwnZ w B (.slice none 0 0) []:=World.ownsRow_nil _ _ _ _
section
variable {a:Act}{dst:Option Tmp}{x y:Operand}{ty:TypeId}{pos:String}{after:Array Edge}{gd:Option (Nat × Bool)}
theorem lssI_op{m k:Int}{b:Bool}(u:World)(hb:decide (m<k)=b)(hx:a.eval x= .int .i64 m)(hy:a.eval y= .int .i64 k):
  (execOp a.eval ⟨dst, .binOp .lss 3 x y 3,ty,pos,after,gd⟩).run Tryz.prog u= .ok (.value (.bool b)) u:=by
 subst hb
 unfold execOp
 simp only[hx,hy]
 go_simp
theorem fieldT_op{k off:Nat}(hk:([(0,0),(1,32),(2,36)]:List (Nat × Nat)).lookup k=some off){ad:Addr}(u:World)(hx:a.eval x= .pointer (some ad)):
   (execOp a.eval ⟨dst, .fieldAddr 61 x k,ty,pos,after,gd⟩).run Tryz.prog u= .ok (.value (.pointer (some (ad.add off)))) u:=by
 unfold execOp
 simp only[hx]
 rcases k with _|_|_|k
 · cases hk;go_simp
 · cases hk;go_simp
 · cases hk;go_simp
 · cases hk
instance:FldT Tryz.prog 61 [(0,0),(1,32),(2,36)]:=⟨fun h u k=>fieldT_op h u k⟩
end
section
variable {P:Program}{Γ:HP}{ops:Array Oper}{md:Region.Mode}{w0:World}{Q:Act→Boxes→Prop}{f i:Nat}{listed:Array Bool}{a:Act}{M:Boxes}
theorem anyH_twoFreshG{j:Nat}{di dj:Option Tmp}{opi opj:Op}{ti tj:TypeId}{pi pj:String}{afi afj:Array Edge}{gi gj:Option (Nat × Bool)}(hQ: ∀a(M M':Boxes),(∀x,x∈M↔x∈M')→Q a M→Q a M')
   (hr:Region.ready md ops listed=[i,j]) (hri:Region.ready md ops (listed.setIfInBounds i true)=[j]) (hrj:Region.ready md ops (listed.setIfInBounds j true)=[i])
   (hi:ops[i]?=some ⟨di,opi,ti,pi,afi,gi⟩) (hj:ops[j]?=some ⟨dj,opj,tj,pj,afj,gj⟩) (hij:i≠j)
   (hap:(Oper.apart ops ⟨di,opi,ti,pi,afi,gi⟩ ⟨dj,opj,tj,pj,afj,gj⟩ && Region.noSelect ops)=true)
   (hwi:Region.wanted ⟨di,opi,ti,pi,afi,gi⟩ (yielded ops a.tmps)=true) (hwj:Region.wanted ⟨dj,opj,tj,pj,afj,gj⟩ (yielded ops a.tmps)=true)
   (Ri Rj:Value→Boxes→Prop) (Mi Mj:Boxes) (hMi: ∀x∈Mi,x∈M) (hMj: ∀x∈Mj,x∈M) (hvi: ∀u,EnvX w0 u Mi→FAt P ⟨di,opi,ti,pi,afi,gi⟩ a Ri u) (hvj: ∀u,EnvX w0 u Mj→FAt P ⟨dj,opj,tj,pj,afj,gj⟩ a Rj u)
   (h : ∀x Nx y Ny,Ri x Nx→Rj y Ny→freshN w0 Nx M→freshN w0 Ny (Nx++M)→(∃u,EnvX w0 u (Ny++(Nx++M)))→
     ∀K1:Act→Prop,(∀a1,(∀K2:Act→Prop,(∀a2,anyH (Γ:=Γ) P md ops w0 Q f ((listed.setIfInBounds i true).setIfInBounds j true) a2 (Ny++(Nx++M))→K2 a2)→Oper.quiet P ⟨dj, .move (.const y),tj,pj,afj,none⟩ a1 (fun _=>True) K2)→K1 a1)→
      Oper.quiet P ⟨di, .move (.const x),ti,pi,afi,none⟩ a (fun _=>True) K1):
   anyH (Γ:=Γ) P md ops w0 Q (f+2) listed a M:=by
 simp only[Bool.and_eq_true]at hap
 obtain⟨q1,q2,q3⟩:=Oper.apart_spec hap.1
 have hsel:=Region.noSelect_spec hap.2
 have H: ∀x Nx y Ny,Ri x Nx→Rj y Ny→freshN w0 Nx M→freshN w0 Ny (Nx++M)→(∃u,EnvX w0 u (Ny++(Nx++M)))→
     anyH (Γ:=Γ) P md ops w0 Q f ((listed.setIfInBounds i true).setIfInBounds j true) ((a.put di x).put dj y) (Ny++(Nx++M)):=fun x Nx y Ny a1 a2 a3 a4 a5=>
   put_told w0 (put_told (K:=fun a1=> ∀K2:Act→Prop,(∀a2,anyH (Γ:=Γ) P md ops w0 Q f ((listed.setIfInBounds i true).setIfInBounds j true) a2 (Ny++(Nx++M))→K2 a2)→Oper.quiet P ⟨dj, .move (.const y),tj,pj,afj,none⟩ a1 (fun _=>True) K2) w0 (h x Nx y Ny a1 a2 a3 a4 a5))
 refine anyH_two hr ?_ ?_
 · unfold hOp
   simp only[hi,hwi,if_true]
   refine .inr (.inl ⟨Ri,Mi,hMi,hvi,fun x Nx hx hfx _=>?_⟩)
   refine anyH_one hri ?_
   unfold hOp
   simp only[hj]
   rw[wanted_put _ a di x q1]
   simp only[hwj,if_true]
   refine .inr (.inl ⟨Rj,Mj,fun z hz=>mR (hMj z hz),fun u hu=>?_,fun y Ny hy hfy hE=>H x Nx y Ny hx hy hfx hfy hE⟩)
   have h1:=hvj u hu
   unfold FAt at *
   rw[execOp_put (ops:=ops) _ (fun cs b=>hsel j _ cs b hj) a di x q1]
   exact h1
 · unfold hOp
   simp only[hj,hwj,if_true]
   refine .inr (.inl ⟨Rj,Mj,hMj,hvj,fun y Ny hy hfy _=>?_⟩)
   refine anyH_one hrj ?_
   unfold hOp
   simp only[hi]
   rw[wanted_put _ a dj y q3]
   simp only[hwi,if_true]
   refine .inr (.inl ⟨Ri,Mi,fun z hz=>mR (hMi z hz),fun u hu=>?_,fun x Nx hx hfx hE=>?_⟩)
   · have h1:=hvi u hu
     unfold FAt at *
     rw[execOp_put (ops:=ops) _ (fun cs b=>hsel i _ cs b hi) a dj y q3]
     exact h1
   · have hp: ∀z,z∈Ny++(Nx++M) ↔z∈Nx++(Ny++M):=fun z=>by
      simp only[List.mem_append]
      exact or_left_comm
     have h1:=H x Nx y Ny hx hy (fun z hz=>⟨(hfx z hz).1,fun t ht=>(hfx z hz).2 t (mR ht)⟩)
      (fun z hz=>⟨(hfy z hz).1,fun t ht=>by
       rcases List.mem_append.1 ht with e|e
       · exact Ne.symm ((hfx t e).2 z (mL hz))
       · exact(hfy z hz).2 t e⟩) (hE.imp fun u hu=>hu.sub (fun z hz=>(hp z).1 hz))
     rw[Act.put_comm a _ _ q2,Array.setIfInBounds_comm _ _ hij]at h1
     exact anyH_perm hQ _ _ _ _ _ hp h1
end
theorem flatT_one{l:List Tot}: ∀u∈(l.map totC).flatten,u.oneCell'=true:=fun u hu=>by
 obtain⟨x,hx,hux⟩:=List.mem_flatten.1 hu
 obtain⟨t,_,rfl⟩:=List.mem_map.1 hx
 exact totC_one t u hux
def lenV:Value→Nat
  | .slice _ n _=>n
  |_=>0
theorem row_tots{u:World}{g n cap:Nat}{cur:Array Value}{l:List Tot}(h:u.heap[g]?=some (.cells cur 61 (0,0)))(hl:okTs l)(hn:l.length=n)(hc:cur.toList.take (n*37)=(l.map totC).flatten):TotsIn u u.heap.size (some ⟨g,0,none⟩) l:=by
 intro hp
 refine⟨_,rfl,Row.lt (t:=61) h,fun j v hv=>?_⟩
 rw[Addr.add_mid,Nat.zero_add,cell_of_row u g j cur 61 (0,0) h]
 rw[←hc]at hv
 have hj:j<n*37:=by
  rcases Nat.lt_or_ge j (n*37)with h'|h'
  · exact h'
  · rw[gN (by rw[List.length_take];omega)]at hv
    cases hv
 rwa[List.getElem?_take_of_lt hj,Array.getElem?_toList]at hv
theorem carry_len: ∀(r:List Tot)(x:Tot),(carryT x r).length≤r.length+1
 |[],x=>Nat.le_refl _
 |y::r,x=>by
  unfold carryT
  split
  · have:=carry_len r (joinT y x)
    rw[List.length_cons]
    omega
  · simp
theorem carry_ok: ∀(r:List Tot)(x:Tot),okT x→okTs r→okTs (carryT x r)
 |[],x,hx,_=>fun t ht=>by cases mS.1 ht;exact hx
 |y::r,x,hx,hr=>by
  unfold carryT
  split
  · exact carry_ok r _ join_ok (fun t ht=>hr t (mT ht))
  · intro t ht
    rcases List.mem_cons.1 ht with rfl|h
    · exact hx
    · exact hr t h
theorem app_len(p:List Tot)(x:Tot):(appT p x).length≤p.length+1:=by
 unfold appT
 rw[List.length_reverse]
 have:=carry_len p.reverse x
 rwa[List.length_reverse]at this
theorem app_ok{p:List Tot}{x:Tot}(hp:okTs p)(hx:okT x):okTs (appT p x):=fun t ht=>by
 unfold appT at ht
 exact carry_ok p.reverse x hx (fun s hs=>hp s (List.mem_reverse.1 hs)) t (List.mem_reverse.1 ht)
theorem peaks_snoc(l:List Tot)(x:Tot):peaksT (l++[x])=appT (peaksT l) x:=by
 unfold peaksT
 rw[List.foldl_append]
 rfl
theorem peaks_ok: ∀(k:Nat)(l:List Tot),okTs l→k≤l.length→okTs (peaksT (l.take k))∧(peaksT (l.take k)).length≤k:=by
 intro k l hl
 induction k with
 |zero=>intro _;rw[List.take_zero];exact⟨fun t ht=>(by cases ht),Nat.le_refl _⟩
 |succ k ih=>
  intro hk
  obtain⟨h1,h2⟩:=ih (by omega)
  rw[List.take_succ_eq_append_getElem (by omega),peaks_snoc]
  refine⟨app_ok h1 (hl _ (List.getElem_mem _)),?_⟩
  have:=app_len (peaksT (l.take k)) l[k]
  omega
theorem root_ok{p:List Tot}(hp:okTs p):okT (rootP p):=by
 have key: ∀(r:List Tot)(x:Tot),okT x→okT (upT x r):=fun r=>by
  induction r with
  |nil=>intro x hx;exact hx
  |cons y r ih=>intro x _;exact ih _ join_ok
 unfold rootP
 cases h:p.reverse with
 |nil=>exact noTot_ok
 |cons x r=>exact key r x (hp x (List.mem_reverse.1 (by rw[h];exact List.mem_cons_self ..)))
def mid(k:Int):List Int:=k::List.replicate 31 0
section
variable {a:Act}{dst:Option Tmp}{x y z:Operand}{ty:TypeId}{pos:String}{after:Array Edge}{gd:Option (Nat × Bool)}
theorem run_fieldT{t:Tot}(h:len32 t)(u:World):(Instr.field 61 (totV t) 0).run Tryz.prog u= .ok (idv t.h) u∧(Instr.field 61 (totV t) 1).run Tryz.prog u= .ok (.agg (wcs t.w)) u∧(Instr.field 61 (totV t) 2).run Tryz.prog u= .ok (.int .i64 t.n) u:=by
 have pH:=run_part_agg aggIdT (cs:=totA t) (off:=0) (v:=arrB 32 t.h) (by have:=ext_list (totC_H h);rwa[Array.toArray_toList]at this) u
 have pW:=run_part_agg aggWd (cs:=totA t) (off:=32) (v:=wcs t.w) (by have:=ext_list (totC_W h);rwa[Array.toArray_toList]at this) u
 have pN:=run_part_plain (P:=Tryz.prog) u (e:=3) (by kernel_rfl) (totC_N h)
 refine⟨?_,?_,?_⟩
 · simp[Instr.field,asAgg,totV,run_underlying underlying61,pH,idv]
 · simp[Instr.field,asAgg,totV,run_underlying underlying61,pW]
 · simp[Instr.field,asAgg,totV,run_underlying underlying61,pN]
theorem fieldH_op{t:Tot}(h:len32 t)(u:World)(hx:a.eval x=totV t):(execOp a.eval ⟨dst, .field 61 x 0,ty,pos,after,gd⟩).run Tryz.prog u= .ok (.value (idv t.h)) u:=by
 unfold execOp
 simp only[hx,Sem.run_bind,(run_fieldT h u).1,Result.andThen_ok,Sem.run_pure]
end
structure BlkR where
  h:Hd
  l:List (List Int)
  t:List TxR
deriving DecidableEq
structure TipR where
  b:BlkR
  p:List Tot
  c:List CoinR
deriving DecidableEq
def noBlk:BlkR:=⟨noHd,[],[]⟩
def noTip:TipR:=⟨noBlk,[],[]⟩
def leafH(h:Hd):Tot:=⟨idH h,workH h,1⟩
def headK(bits:Nat):Hd:=⟨0,z32,rootT [],rootT [],noTot.h,0,bits,0⟩
def tipK(bits:Nat):TipR:=⟨⟨headK bits,[],[]⟩,[leafH (headK bits)],[]⟩
def firstK(bits:Nat):TipR × Bool:=if isC bits then (tipK bits,true)else (noTip,false)
def linksK(t:TipR):List (List Int):=nextT t.b.l (idH t.b.h) (levelH t.b.h)
def nextK(t:TipR)(l:List TxR)(nonce:Nat):Hd:=⟨IntKind.i64.wrap (t.b.h.height+1),idH t.b.h,rootT (leavesL (linksK t)),rootT (idsX l),(rootP t.p).h,(rootP t.p).w,t.b.h.bits,nonce⟩
def pushK(t:TipR)(b:BlkR):TipR × Nat:=
  if 48≤b.h.height then (t,3)else
  if¬(b.h.height=(nextK t b.t b.h.nonce).height∧b.h.prev=(nextK t b.t b.h.nonce).prev∧b.h.bits=(nextK t b.t b.h.nonce).bits)then (t,5)else
  if¬(b.l=linksK t∧b.h.links=(nextK t b.t b.h.nonce).links)then (t,6)else
  if¬(b.h.txs=(nextK t b.t b.h.nonce).txs∧b.h.past=(nextK t b.t b.h.nonce).past∧b.h.work=(nextK t b.t b.h.nonce).work)then (t,7)else
  if mayH b.h=false then (t,4)else
  if (applyP t.c b.t).2≠0 then (t,(applyP t.c b.t).2)else (⟨b,appT t.p (leafH b.h),(applyP t.c b.t).1⟩,0)
def mineK(t:TipR)(l:List TxR)(nonce:Nat)(tries:Int):BlkR × Nat:=
  if 48≤(nextK t l nonce).height then (noBlk,3)else
  if (applyP t.c l).2≠0 then (noBlk,(applyP t.c l).2)else
  if (mineH (nextK t l nonce) tries).2=false then (noBlk,4)else (⟨(mineH (nextK t l nonce) tries).1,linksK t,l⟩,0)
theorem push_ok{t u:TipR}{b:BlkR}(h:pushK t b=(u,0)):b.h=nextK t b.t b.h.nonce∧b.h.height<48∧b.l=linksK t∧mayH b.h=true∧(applyP t.c b.t).2=0∧u=⟨b,appT t.p (leafH b.h),(applyP t.c b.t).1⟩:=by
 unfold pushK at h
 split at h
 · cases h
 · rename_i h1
   split at h
   · cases h
   · rename_i h2
     split at h
     · cases h
     · rename_i h3
       split at h
       · cases h
       · rename_i h4
         split at h
         · cases h
         · rename_i h5
           split at h
           · rename_i h6
             cases hh:(applyP t.c b.t).2 with
             |zero=>exact absurd hh h6
             |succ e=>
              rw[hh]at h
              cases h
           · rename_i h6
             simp only[Classical.not_not]at h2 h3 h4 h6
             cases h
             refine⟨?_,by omega,h3.1,by simpa using h5,h6,rfl⟩
             obtain⟨hd,l,tx⟩:=b
             obtain⟨a1,a2,a3,a4,a5,a6,a7,a8⟩:=hd
             simp only[nextK]at h2 h3 h4 ⊢
             obtain⟨rfl,rfl,rfl⟩:=h2
             obtain⟨-,rfl⟩:=h3
             obtain⟨rfl,rfl,rfl⟩:=h4
             rfl
theorem push_of{t:TipR}{b:BlkR}(h1:b.h=nextK t b.t b.h.nonce)(h2:b.h.height<48)(h3:b.l=linksK t)(h4:mayH b.h=true)(h5:(applyP t.c b.t).2=0):pushK t b=(⟨b,appT t.p (leafH b.h),(applyP t.c b.t).1⟩,0):=by
 have hp:b.h.height=(nextK t b.t b.h.nonce).height∧b.h.prev=(nextK t b.t b.h.nonce).prev∧b.h.bits=(nextK t b.t b.h.nonce).bits:=by rw[←h1];exact⟨rfl,rfl,rfl⟩
 have hl:b.h.links=(nextK t b.t b.h.nonce).links:=by rw[←h1]
 have hr:b.h.txs=(nextK t b.t b.h.nonce).txs∧b.h.past=(nextK t b.t b.h.nonce).past∧b.h.work=(nextK t b.t b.h.nonce).work:=by rw[←h1];exact⟨rfl,rfl,rfl⟩
 unfold pushK
 rw[if_neg (by omega),if_neg (fun k=>k hp),if_neg (fun k=>k ⟨h3,hl⟩),if_neg (fun k=>k hr),if_neg (by rw[h4];decide),if_neg (fun k=>k h5)]
theorem nonceAt_mod{h:Hd}(k:Nat):(nonceAt h k).nonce<18446744073709551616:=Nat.mod_lt _ (by decide)
theorem nonceAt_next(t:TipR)(l:List TxR)(n k:Nat):nonceAt (nextK t l n) k=nextK t l (nonceAt (nextK t l n) k).nonce:=rfl
theorem mine_ok {t:TipR} {l:List TxR} {nonce:Nat} {tries:Int} {b:BlkR} (h:mineK t l nonce tries=(b,0)):b.h=nextK t l b.h.nonce∧b.h.height<48∧b.l=linksK t∧b.t=l∧mayH b.h=true∧(applyP t.c l).2=0∧b.h.nonce<18446744073709551616:=by
 unfold mineK at h
 split at h
 · cases h
 · rename_i h1
   split at h
   · rename_i h2
     cases hh:(applyP t.c l).2 with
     |zero=>exact absurd hh h2
     |succ e=>rw[hh]at h;cases h
   · rename_i h2
     split at h
     · cases h
     · rename_i h3
       simp only[Classical.not_not]at h2
       cases h
       simp only[Bool.not_eq_false]at h3
       unfold mineH at h3 ⊢
       cases hf:(List.range (min tries 200).toNat).find? (fun k=>mayH (nonceAt (nextK t l nonce) k))with
       |none=>rw[hf]at h3;cases h3
       |some k=>
        have hm:=List.find?_some hf
        simp only at hm ⊢
        exact⟨nonceAt_next t l nonce k,by have e:(nonceAt (nextK t l nonce) k).height=(nextK t l nonce).height:=rfl;omega,trivial,trivial,hm,h2,nonceAt_mod k⟩
theorem mine_push{t:TipR}{l:List TxR}{nonce:Nat}{tries:Int}{b:BlkR}(h:mineK t l nonce tries=(b,0)):pushK t b=(⟨b,appT t.p (leafH b.h),(applyP t.c l).1⟩,0):=by
 obtain⟨h1,h2,h3,rfl,h5,h6,-⟩:=mine_ok h
 exact push_of h1 h2 h3 h5 h6
theorem first_level{bits:Nat}(h:isC bits=true):levelH (headK bits)=31:=by
 unfold levelH
 rw[show isC (headK bits).bits=true from h]
 rfl
structure BlkM where
  h:Hd
  l:List (List Int)
  A1:Option Addr
  n1:Nat
  c1:Nat
  t:List TxM
  A2:Option Addr
  n2:Nat
  c2:Nat
def BlkM.r(b:BlkM):BlkR:=⟨b.h,b.l,rsT b.t⟩
structure TipM where
  b:BlkM
  p:List Tot
  A3:Option Addr
  n3:Nat
  c3:Nat
  c:List CoinR
  A4:Option Addr
  n4:Nat
  c4:Nat
def TipM.r(t:TipM):TipR:=⟨t.b.r,t.p,t.c⟩
def noBlkM:BlkM:=⟨noHd,[],none,0,0,[],none,0,0⟩
def noTipM:TipM:=⟨noBlkM,[],none,0,0,[],none,0,0⟩
def blkC(b:BlkM):List Value:=hdC b.h++[.slice b.A1 b.n1 b.c1, .slice b.A2 b.n2 b.c2]
def blkA(b:BlkM):Array Value:=(blkC b).toArray
def blkV(b:BlkM):Value:= .agg (blkA b)
def tipC(t:TipM):List Value:=blkC t.b++[.slice t.A3 t.n3 t.c3, .slice t.A4 t.n4 t.c4]
def tipA(t:TipM):Array Value:=(tipC t).toArray
def tipV(t:TipM):Value:= .agg (tipA t)
structure BlkOk(w:World)(b:BlkM):Prop where
  h:okHd b.h
  l1:b.l.length=b.n1
  b1:b.n1≤b.c1∧b.c1≤maxLen
  o1:isIds b.l
  m1:IdsIn w w.heap.size b.A1 b.l
  l2:b.t.length=b.n2
  b2:b.n2≤b.c2∧b.c2≤maxLen
  m2:TxsIn w b.A2 b.t
structure TipOk(w:World)(t:TipM):Prop where
  b:BlkOk w t.b
  l3:t.p.length=t.n3
  b3:t.n3≤t.c3∧t.c3≤maxLen
  o3:okTs t.p
  m3:TotsIn w w.heap.size t.A3 t.p
  l4:t.c.length=t.n4
  b4:t.n4≤t.c4∧t.c4≤maxLen
  o4:okP t.c
  m4:CoinsIn w w.heap.size t.A4 t.c
theorem BlkOk.up{w w':World}{b:BlkM}(h:BlkOk w b)(hb:Below w.heap.size w w'):BlkOk w' b:=⟨h.h,h.l1,h.b1,h.o1,h.m1.up hb,h.l2,h.b2,h.m2.up hb⟩
theorem TipOk.up{w w':World}{t:TipM}(h:TipOk w t)(hb:Below w.heap.size w w'):TipOk w' t:=⟨h.b.up hb,h.l3,h.b3,h.o3,h.m3.up hb,h.l4,h.b4,h.o4,CellsIn.up h.m4 hb⟩
theorem BlkOk.n63{w:World}{b:BlkM}(h:BlkOk w b):b.n1<9223372036854775808∧b.n2<9223372036854775808:=by
 have h1:=h.b1
 have h2:=h.b2
 unfold maxLen at h1 h2
 omega
theorem BlkOk.no(w:World):BlkOk w noBlkM:=by
 have hz:isId z32:=⟨rfl,fun y hy=>by rw[List.eq_of_mem_replicate hy];decide⟩
 exact⟨⟨⟨by decide,by decide⟩,hz,hz,hz,hz,by decide,by decide,by decide⟩,rfl,⟨Nat.le_refl _,Nat.zero_le _⟩,(fun x h=>by cases h),(fun h=>absurd h (by decide)),rfl,⟨Nat.le_refl _,Nat.zero_le _⟩,⟨fun h=>absurd h (by decide),fun t h=>by cases h⟩⟩
theorem TipOk.no(w:World):TipOk w noTipM:=⟨BlkOk.no w,rfl,⟨Nat.le_refl _,Nat.zero_le _⟩,(fun x h=>by cases h),(fun h=>absurd h (by decide)),rfl,⟨Nat.le_refl _,Nat.zero_le _⟩,(fun x h=>by cases h),(fun h=>absurd h (by decide))⟩
theorem blkC_len{b:BlkM}(k:lenH b.h):(blkC b).length=137:=by unfold blkC;rw[lA,hdC_len k];rfl
theorem tipC_len{t:TipM}(k:lenH t.b.h):(tipC t).length=139:=by unfold tipC;rw[lA,blkC_len k];rfl
theorem blkA_size{b:BlkM}(k:lenH b.h):(blkA b).size=137:=by unfold blkA;rw[List.size_toArray,blkC_len k]
theorem tipA_size{t:TipM}(k:lenH t.b.h):(tipA t).size=139:=by unfold tipA;rw[List.size_toArray,tipC_len k]
theorem blkC_one(b:BlkM): ∀u∈blkC b,u.oneCell'=true:=by
 intro u hu
 unfold blkC at hu
 simp only[List.mem_append,List.mem_cons,List.not_mem_nil,or_false]at hu
 rcases hu with h|rfl|rfl
 · exact hdC_one _ u h
 · rfl
 · rfl
theorem tipC_one(t:TipM): ∀u∈tipC t,u.oneCell'=true:=by
 intro u hu
 unfold tipC at hu
 simp only[List.mem_append,List.mem_cons,List.not_mem_nil,or_false]at hu
 rcases hu with h|rfl|rfl
 · exact blkC_one _ u h
 · rfl
 · rfl
theorem blkA_one(b:BlkM):(blkA b).all (·.oneCell')=true:=by
 rw[Array.all_eq_true]
 intro i hi
 exact blkC_one b _ (show (blkA b)[i]∈(blkA b).toList from Array.mem_toList_iff.2 (Array.getElem_mem hi))
theorem tipA_one(t:TipM):(tipA t).all (·.oneCell')=true:=by
 rw[Array.all_eq_true]
 intro i hi
 exact tipC_one t _ (show (tipA t)[i]∈(tipA t).toList from Array.mem_toList_iff.2 (Array.getElem_mem hi))
theorem aggBlk:AggT 37 137:=⟨fun w=>by simp[isAgg,run_underlying underlying37],by kernel_rfl⟩
theorem aggTip:AggT 41 139:=⟨fun w=>by simp[isAgg,run_underlying underlying41],by kernel_rfl⟩
theorem infoBlk(cs:Array Value)(h:cs.size=137):(Tryz.prog.info? 37).map (·.size)=some cs.size:=by rw[h];exact aggBlk.size
theorem infoTip(cs:Array Value)(h:cs.size=139):(Tryz.prog.info? 41).map (·.size)=some cs.size:=by rw[h];exact aggTip.size
theorem oneIdsK: ∀w,(isAgg 35).run Tryz.prog w= .ok false w:=fun w=>by simp[isAgg,run_underlying underlying35]
theorem oneTxsK: ∀w,(isAgg 23).run Tryz.prog w= .ok false w:=fun w=>by simp[isAgg,run_underlying underlying23]
theorem oneTotsK: ∀w,(isAgg 38).run Tryz.prog w= .ok false w:=fun w=>by simp[isAgg,run_underlying underlying38]
theorem oneCoinsK: ∀w,(isAgg 39).run Tryz.prog w= .ok false w:=fun w=>by simp[isAgg,run_underlying underlying39]
theorem loads_hd{ad:Addr}{u:World}{h:Hd}(k:lenH h)(hc: ∀(j:Nat)(v:Value),(hdC h)[j]?=some v→u.cell? (ad.add j)=some v):
   (loadVar 34 ad).run Tryz.prog u= .ok (hdV h) u∧
   (loadVar 3 ad).run Tryz.prog u= .ok (.int .i64 h.height) u∧
   (loadVar 26 (ad.add 1)).run Tryz.prog u= .ok (idv h.prev) u∧
   (loadVar 26 (ad.add 33)).run Tryz.prog u= .ok (idv h.links) u∧
   (loadVar 26 (ad.add 65)).run Tryz.prog u= .ok (idv h.txs) u∧
   (loadVar 26 (ad.add 97)).run Tryz.prog u= .ok (idv h.past) u∧
   (loadVar 32 (ad.add 129)).run Tryz.prog u= .ok (.agg (wcs h.work)) u∧
   (loadVar 27 (ad.add 133)).run Tryz.prog u= .ok (.int .u32 h.bits) u∧
   (loadVar 24 (ad.add 134)).run Tryz.prog u= .ok (.int .u64 h.nonce) u:=by
 have hadd0: ∀a:Addr,a.add 0=a:=fun a=>by unfold Addr.add;rfl
 have part: ∀(i n:Nat)(ys:List Value),((hdA h).toList.drop i).take n=ys→ ∀j v,ys[j]?=some v→u.cell? ((ad.add i).add j)=some v:=fun i n ys e j v hv=>by
   rw[show (ad.add i).add j=ad.add (i+j)by simp only[add_addN,Nat.add_assoc]]
   refine hc (i+j) v ?_
   rw[←e]at hv
   have hv':(((hdC h).drop i).take n)[j]?=some v:=hv
   rw[List.getElem?_take]at hv'
   split at hv'
   · rwa[List.getElem?_drop]at hv'
   · cases hv'
 have cell: ∀(i:Nat)(v:Value),(hdA h)[i]?=some v→u.cell? (ad.add i)=some v:=fun i v hv=>hc i v (by
   unfold hdA at hv
   rwa[List.getElem?_toArray]at hv)
 refine⟨run_loadAgg aggHd (hdC h) (hdC_len k) hc,run_load_one oneInt u (by have:=cell 0 _ (hdC_height h);rwa[hadd0]at this),?_,?_,?_,?_,?_,run_load_one oneU32h u (cell 133 _ (hdC_bits k)),run_load_one oneU64h u (cell 134 _ (hdC_nonce k))⟩
 · have:=run_loadAgg aggIdT (w:=u) (ad:=ad.add 1) _ (idA_list k.1) (part 1 32 _ (hdC_prev k));rwa[agg_list]at this
 · have:=run_loadAgg aggIdT (w:=u) (ad:=ad.add 33) _ (idA_list k.2.1) (part 33 32 _ (hdC_links k));rwa[agg_list]at this
 · have:=run_loadAgg aggIdT (w:=u) (ad:=ad.add 65) _ (idA_list k.2.2.1) (part 65 32 _ (hdC_txs k));rwa[agg_list]at this
 · have:=run_loadAgg aggIdT (w:=u) (ad:=ad.add 97) _ (idA_list k.2.2.2) (part 97 32 _ (hdC_past k));rwa[agg_list]at this
 · have:=run_loadAgg aggWd (w:=u) (ad:=ad.add 129) _ (wcs_list _) (part 129 4 _ (hdC_work k));rwa[agg_list]at this
theorem blk_cells{b:BlkM}(k:lenH b.h):(∀(j:Nat)(v:Value),(hdC b.h)[j]?=some v→(blkC b)[j]?=some v)∧(blkC b)[135]?=some (.slice b.A1 b.n1 b.c1)∧(blkC b)[136]?=some (.slice b.A2 b.n2 b.c2):=by
 unfold blkC
 refine⟨fun j v hj=>?_,?_,?_⟩
 · rw[List.getElem?_append_left]
   · exact hj
   · rcases Nat.lt_or_ge j (hdC b.h).length with h|h
     · exact h
     · rw[gN h]at hj;cases hj
 · rw[List.getElem?_append_right (by rw[hdC_len k];omega),hdC_len k];rfl
 · rw[List.getElem?_append_right (by rw[hdC_len k];omega),hdC_len k];rfl
theorem tip_cells{t:TipM}(k:lenH t.b.h):(∀(j:Nat)(v:Value),(blkC t.b)[j]?=some v→(tipC t)[j]?=some v)∧(tipC t)[137]?=some (.slice t.A3 t.n3 t.c3)∧(tipC t)[138]?=some (.slice t.A4 t.n4 t.c4):=by
 unfold tipC
 refine⟨fun j v hj=>?_,?_,?_⟩
 · rw[List.getElem?_append_left]
   · exact hj
   · rcases Nat.lt_or_ge j (blkC t.b).length with h|h
     · exact h
     · rw[gN h]at hj;cases hj
 · rw[List.getElem?_append_right (by rw[blkC_len k];omega),blkC_len k];rfl
 · rw[List.getElem?_append_right (by rw[blkC_len k];omega),blkC_len k];rfl
section
variable {w0 u:World}{M:Boxes}{g:Nat}{ty:TypeId}{b:BlkM}{t:TipM}
theorem box_list{cs:List Value}(hu:EnvC w0 M u)(hm:(g,oc cs.toArray ty)∈M): ∀(j:Nat)(v:Value),cs[j]?=some v→u.cell? ((⟨g,0,none⟩:Addr).add j)=some v:=fun j v hj=>by
 rw[show (⟨g,0,none⟩:Addr).add j=⟨g,j,none⟩by rw[Addr.add_mid,Nat.zero_add]]
 exact box_cell hu hm (by rw[List.getElem?_toArray];exact hj)
theorem box_blk(hu:EnvC w0 M u)(hm:(g,oc (blkA b) ty)∈M)(k:lenH b.h):(loadVar 37 ⟨g,0,none⟩).run Tryz.prog u= .ok (blkV b) u:=run_loadAgg aggBlk (blkC b) (blkC_len k) (box_list hu hm)
instance:Cell Tryz.prog (blkA b) 37 0 (blkV b) (lenH b.h):=⟨fun hu hm k=>box_blk hu hm k⟩
theorem box_blk_hd(hu:EnvC w0 M u)(hm:(g,oc (blkA b) ty)∈M)(k:lenH b.h): ∀(j:Nat)(v:Value),(hdC b.h)[j]?=some v→u.cell? ((⟨g,0,none⟩:Addr).add j)=some v:=fun j v hj=>box_list hu hm j v ((blk_cells k).1 j v hj)
theorem box_blk_l(hu:EnvC w0 M u)(hm:(g,oc (blkA b) ty)∈M)(k:lenH b.h):(loadVar 35 ⟨g,135,none⟩).run Tryz.prog u= .ok (.slice b.A1 b.n1 b.c1) u:=run_load_one oneIdsK u (by have:=box_list hu hm 135 _ (blk_cells k).2.1;rwa[show (⟨g,0,none⟩:Addr).add 135=⟨g,135,none⟩by rw[Addr.add_mid,Nat.zero_add]]at this)
instance:Cell Tryz.prog (blkA b) 35 135 (.slice b.A1 b.n1 b.c1) (lenH b.h):=⟨fun hu hm k=>box_blk_l hu hm k⟩
theorem box_blk_t(hu:EnvC w0 M u)(hm:(g,oc (blkA b) ty)∈M)(k:lenH b.h):(loadVar 23 ⟨g,136,none⟩).run Tryz.prog u= .ok (.slice b.A2 b.n2 b.c2) u:=run_load_one oneTxsK u (by have:=box_list hu hm 136 _ (blk_cells k).2.2;rwa[show (⟨g,0,none⟩:Addr).add 136=⟨g,136,none⟩by rw[Addr.add_mid,Nat.zero_add]]at this)
instance:Cell Tryz.prog (blkA b) 23 136 (.slice b.A2 b.n2 b.c2) (lenH b.h):=⟨fun hu hm k=>box_blk_t hu hm k⟩
theorem box_tip(hu:EnvC w0 M u)(hm:(g,oc (tipA t) ty)∈M)(k:lenH t.b.h):(loadVar 41 ⟨g,0,none⟩).run Tryz.prog u= .ok (tipV t) u:=run_loadAgg aggTip (tipC t) (tipC_len k) (box_list hu hm)
instance:Cell Tryz.prog (tipA t) 41 0 (tipV t) (lenH t.b.h):=⟨fun hu hm k=>box_tip hu hm k⟩
theorem box_tip_blk(hu:EnvC w0 M u)(hm:(g,oc (tipA t) ty)∈M)(k:lenH t.b.h):(loadVar 37 ⟨g,0,none⟩).run Tryz.prog u= .ok (blkV t.b) u:=run_loadAgg aggBlk (blkC t.b) (blkC_len k) fun j v hj=>box_list hu hm j v ((tip_cells k).1 j v hj)
instance:Cell Tryz.prog (tipA t) 37 0 (blkV t.b) (lenH t.b.h):=⟨fun hu hm k=>box_tip_blk hu hm k⟩
theorem box_tip_hd(hu:EnvC w0 M u)(hm:(g,oc (tipA t) ty)∈M)(k:lenH t.b.h): ∀(j:Nat)(v:Value),(hdC t.b.h)[j]?=some v→u.cell? ((⟨g,0,none⟩:Addr).add j)=some v:=fun j v hj=>box_list hu hm j v ((tip_cells k).1 j v ((blk_cells k).1 j v hj))
theorem box_tip_l(hu:EnvC w0 M u)(hm:(g,oc (tipA t) ty)∈M)(k:lenH t.b.h):(loadVar 35 ⟨g,135,none⟩).run Tryz.prog u= .ok (.slice t.b.A1 t.b.n1 t.b.c1) u:=run_load_one oneIdsK u (by have:=box_list hu hm 135 _ ((tip_cells k).1 _ _ (blk_cells k).2.1);rwa[show (⟨g,0,none⟩:Addr).add 135=⟨g,135,none⟩by rw[Addr.add_mid,Nat.zero_add]]at this)
instance:Cell Tryz.prog (tipA t) 35 135 (.slice t.b.A1 t.b.n1 t.b.c1) (lenH t.b.h):=⟨fun hu hm k=>box_tip_l hu hm k⟩
theorem box_tip_p(hu:EnvC w0 M u)(hm:(g,oc (tipA t) ty)∈M)(k:lenH t.b.h):(loadVar 38 ⟨g,137,none⟩).run Tryz.prog u= .ok (.slice t.A3 t.n3 t.c3) u:=run_load_one oneTotsK u (by have:=box_list hu hm 137 _ (tip_cells k).2.1;rwa[show (⟨g,0,none⟩:Addr).add 137=⟨g,137,none⟩by rw[Addr.add_mid,Nat.zero_add]]at this)
instance:Cell Tryz.prog (tipA t) 38 137 (.slice t.A3 t.n3 t.c3) (lenH t.b.h):=⟨fun hu hm k=>box_tip_p hu hm k⟩
theorem box_tip_c(hu:EnvC w0 M u)(hm:(g,oc (tipA t) ty)∈M)(k:lenH t.b.h):(loadVar 39 ⟨g,138,none⟩).run Tryz.prog u= .ok (.slice t.A4 t.n4 t.c4) u:=run_load_one oneCoinsK u (by have:=box_list hu hm 138 _ (tip_cells k).2.2;rwa[show (⟨g,0,none⟩:Addr).add 138=⟨g,138,none⟩by rw[Addr.add_mid,Nat.zero_add]]at this)
instance:Cell Tryz.prog (tipA t) 39 138 (.slice t.A4 t.n4 t.c4) (lenH t.b.h):=⟨fun hu hm k=>box_tip_c hu hm k⟩
end
section
variable {a:Act}{dst:Option Tmp}{x y:Operand}{ty:TypeId}{pos:String}{after:Array Edge}{gd:Option (Nat × Bool)}
theorem fieldBlk_op{k off:Nat}(hk:([(0,0),(1,135),(2,136)]:List (Nat × Nat)).lookup k=some off){ad:Addr}(u:World)(hx:a.eval x= .pointer (some ad)):
  (execOp a.eval ⟨dst, .fieldAddr 37 x k,ty,pos,after,gd⟩).run Tryz.prog u= .ok (.value (.pointer (some (ad.add off)))) u:=by
 unfold execOp
 simp only[hx]
 rcases k with _|_|_|k
 all_goals first|(cases hk;go_simp)|cases hk
instance:FldT Tryz.prog 37 [(0,0),(1,135),(2,136)]:=⟨fun h u k=>fieldBlk_op h u k⟩
theorem fieldTip_op{k off:Nat}(hk:([(0,0),(1,137),(2,138)]:List (Nat × Nat)).lookup k=some off){ad:Addr}(u:World)(hx:a.eval x= .pointer (some ad)):
  (execOp a.eval ⟨dst, .fieldAddr 41 x k,ty,pos,after,gd⟩).run Tryz.prog u= .ok (.value (.pointer (some (ad.add off)))) u:=by
 unfold execOp
 simp only[hx]
 rcases k with _|_|_|k
 all_goals first|(cases hk;go_simp)|cases hk
instance:FldT Tryz.prog 41 [(0,0),(1,137),(2,138)]:=⟨fun h u k=>fieldTip_op h u k⟩
end
def tipE:TipR:=tipK 545259519
def nextE:Hd:=nextK tipE [] 0
theorem exE_isC:isC 545259519=true:=by decide+kernel
theorem exE_level:levelH tipE.b.h=31:=first_level exE_isC
theorem exE_links:linksK tipE=[idH tipE.b.h]:=by
 unfold linksK
 rw[exE_level]
 rfl
theorem exE_finds:((List.range 200).find? (fun k=>mayH (nonceAt nextE k))).isSome=true:=by decide+kernel
def blkE:BlkR:=⟨(mineH nextE 200).1,[idH tipE.b.h],[]⟩
theorem exE_mine:mineK tipE [] 0 200=(blkE,0):=by
 have hm:(mineH nextE 200).2=true:=by
  have h:=exE_finds
  unfold mineH
  rw[show (min (200:Int) 200).toNat=200 from rfl]
  cases hf:(List.range 200).find? (fun k=>mayH (nonceAt nextE k))with
  |none=>rw[hf]at h;cases h
  |some k=>rfl
 unfold mineK
 rw[if_neg (show¬(48≤(nextK tipE [] 0).height)by show¬(48≤IntKind.i64.wrap (0+1));rw[IntKind.wrap_i64];omega),if_neg (fun k=>k rfl),show mineH (nextK tipE [] 0) 200=mineH nextE 200 from rfl,hm]
 simp only[Bool.true_eq_false,if_false]
 rw[exE_links]
 rfl
def tipE2:TipR:=⟨blkE,appT tipE.p (leafH blkE.h),[]⟩
theorem exE_push:pushK tipE blkE=(tipE2,0):=mine_push exE_mine
theorem exE_head:blkE.h=nextK tipE [] blkE.h.nonce:=(mine_ok exE_mine).1
theorem exE_height:blkE.h.height=1:=by
 rw[exE_head]
 show IntKind.i64.wrap (0+1)=1
 rw[IntKind.wrap_i64]
 omega
def HeapB(w:World):Boxes:=(List.finRange w.heap.size).map fun i=>(i.val,w.heap[i])
theorem HeapB.get{w:World}{k:Nat}(hk:k<w.heap.size):(k,w.heap[k])∈HeapB w:=List.mem_map.2 ⟨⟨k,hk⟩,List.mem_finRange _,rfl⟩
theorem HeapB.box{w:World}: ∀y∈HeapB w,w.heap[y.1]?=some y.2:=fun y hy=>by
 obtain⟨i,_,rfl⟩:=List.mem_map.1 hy
 exact Array.getElem?_eq_getElem i.isLt
theorem HeapB.bel{w0 w' u:World}{M M':Boxes}(h:EnvX w0 w' M')(hu:EnvX w0 u M)(hN: ∀y∈HeapB w',y∈M):Below w'.heap.size w' u:=by
 have hb: ∀k,(hk:k<w'.heap.size)→u.heap[k]?=some w'.heap[k]:=fun k hk=>hu.box _ _ (hN _ (HeapB.get hk))
 refine⟨by rw[(EnvX.bel hu).os,(EnvX.bel h).os],by rw[(EnvX.bel hu).tape,(EnvX.bel h).tape],by rw[(EnvX.bel hu).output,(EnvX.bel h).output],?_,fun k hk=>by rw[hb k hk,Array.getElem?_eq_getElem hk]⟩
 rcases Nat.eq_zero_or_pos w'.heap.size with h0|h0
 · omega
 · have:=hb (w'.heap.size- 1) (by omega)
   obtain⟨h1,_⟩:=Array.getElem?_eq_some_iff.1 this
   omega
def KeptB(w0:World)(N:Boxes)(Q:World→Prop):Prop:= ∀u M,EnvX w0 u M→(∀y∈N,y∈M)→Q u
theorem heap_env{w0 w':World}{M:Boxes}(hE:EnvX w0 w' M):EnvX w0 w' (HeapB w'++M):=⟨hE.bel,fun g o hm=>by
 rcases List.mem_append.1 hm with h|h
 · exact HeapB.box _ h
 · exact hE.box g o h⟩
theorem any_turn{P:Program}{f:FuncId}{args:Array Value}{u w0:World}{M:Boxes}{α:Type}{V:α→Value}{Q:α→World→Prop}(hQ: ∀r w w',Below w.heap.size w w'→Q r w→Q r w')(h:Calls P f args u fun e w'=>(∃t,e= .returned (V t)∧Q t w')∧Below u.heap.size u w')(hu:EnvX w0 u M):
  Calls P f args u fun e w'=> ∃r M',e= .returned r∧EnvX w0 w' M'∧ ∃t N,r=V t∧M'=N++M∧KeptB w0 N (Q t)∧ ∃v,Q t v:=
 h.mono fun e w'⟨⟨t,he,hq⟩,hb⟩=>by
  have hE:=EnvX.below hu hb
  exact⟨_,_,he,heap_env hE,t,HeapB w',rfl,rfl,(fun v M2 hv hN=>hQ t w' v (HeapB.bel hE hv hN) hq),w',hq⟩
def fewAll(l:List TxM)(m:Int):Bool:=l.all (fun t=>fewX t.r) && decide ((l.length:Int)≤m)
theorem fewAll_no{l:List TxM}{m:Int}{k:Nat}(hk:k<l.length)(h:fewX (l.getD k noTxM).r=false):fewAll l m=false:=by
 unfold fewAll
 have e:l.all (fun t=>fewX t.r)=false:=by
  rw[List.all_eq_false]
  refine⟨l.getD k noTxM,?_,by rw[h];decide⟩
  rw[gD,gE hk]
  exact List.getElem_mem hk
 rw[e]
 rfl
theorem fewAll_all{l:List TxM}{m:Int}(h: ∀k,k<l.length→fewX (l.getD k noTxM).r=true):fewAll l m=decide ((l.length:Int)≤m):=by
 unfold fewAll
 have e:l.all (fun t=>fewX t.r)=true:=by
  rw[List.all_eq_true]
  intro t ht
  obtain⟨k,hk,rfl⟩:=List.getElem_of_mem ht
  have:=h k hk
  rwa[gD,gE hk]at this
 rw[e]
 rfl
theorem fewAll_len{l:List TxM}{m:Int}(h:fewAll l m=true):(l.length:Int)≤m:=by
 unfold fewAll at h
 rw[Bool.and_eq_true,decide_eq_true_eq]at h
 exact h.2
theorem fewall_any(l:List TxM)(m:Int)(A:Option Addr)(n c:Nat)(w:World)(hl:l.length=n)(hn:n<9223372036854775808)(hA:TxsIn w A l):
  Rz 12 #[.slice A n c, .int .i64 m] w (.bool (fewAll l m)):=by
 unfold Rz
 have HL:=hD hl
 have HIA:=hD hA
 have HN63:=hD hn
 clear hl hA
 go_enter func12,ntmps12
 go_upto_region 2 with (fail)
 go_loopw [5] (fun iv u=> ∃k:Nat,k≤n∧iv= .int .i64 (k:Int)∧Hid ((∀j,j<k→fewX (l.getD j noTxM).r=true)∧Below w.heap.size w u)) (fun iv _=>n- (intOf iv).toNat)
 case atStart=>exact⟨0,by omega,rfl,fun j hj=>by omega,Below.refl _ _⟩
 case round=>
  obtain⟨k,hk,rfl,hinv⟩:=hrel
  obtain⟨hA,hB⟩:=hinv.out
  clear hinv
  have HF:=hD hA
  have EK:Hid (EnvX w wr []):=⟨hB,fun _ _ h=>by cases h⟩
  clear hA hB
  by_cases hlt:k<n
  · have hkl:k<l.length:=by rw[HL.out];exact hlt
    obtain⟨ad,rfl,-,hld⟩:=HIA.out.loads hkl
    have HLD:Hid (∀u,EnvX w u []→(loadVar 77 (ad.add (k*2))).run Tryz.prog u= .ok (txV (l.getD k noTxM)) u):=fun u hu=>(hld u hu).1
    have HFW:Hid (Rb w 37 #[txV (l.getD k noTxM)] (.bool (fewX (l.getD k noTxM).r))):=fun u hu=>few_any _ u ((HIA.out.get hkl).up hu)
    have HKN:=hD hlt
    have HKL:=hD hkl
    have C2:Hid (decide ((k:Int)<(n:Int))=true):=decide_eq_true (by omega)
    clear hld
    have hno:fewX (l.getD k noTxM).r=false→fewAll l m=false:=fun e=>fewAll_no hkl e
    have HNO:=hD hno
    clear hno hkl
    cases hf:fewX (l.getD k noTxM).r with
    |false=>
     rw[hf]at HFW
     go_upto_region 2 with (fail)
     refine rgQ [0,1,2,3] [] EK rfl fun hw=>?_
     refine qw 2 hw ?_
     refine qv rfl (fun u hu=>len_op underlying23 HN63.out u rfl) hw ?_
     refine qv rfl (fun u hu=>ltZ_op u C2.out rfl rfl) hw ?_
     refine enP fun u3 EX2=>?_
     go_upto_region 4 with (fail)
     refine rgQ [0,1,2,3,4,5] [] EX2 rfl fun hw=>?_
     refine qw 2 hw ?_
     refine qv rfl (fun u hu=>idxSl_op underlying23 aggTx.size HKN.out u rfl rfl) hw ?_
     refine qv rfl (fun u hu=>load_any_op u (HLD.out u hu) rfl) hw ?_
     refine qc rfl func37 (fun u hu=>HFW.out u (EnvX.bel hu)) hw ?_
     refine qo rfl hw ?_
     refine enP fun u6 EX5=>?_
     have HBE:=hD (EnvX.bel EX5.out)
     have HRS:Hid (fewAll l m=false):=HNO.out hf
     clear hf
     go_wp2
     go_ret
     exact⟨by rw[HRS.out];rfl,HBE.out⟩
    | true=>
     rw[hf]at HFW
     go_upto_region 2 with (fail)
     refine rgQ [0,1,2,3] [] EK rfl fun hw=>?_
     refine qw 2 hw ?_
     refine qv rfl (fun u hu=>len_op underlying23 HN63.out u rfl) hw ?_
     refine qv rfl (fun u hu=>ltZ_op u C2.out rfl rfl) hw ?_
     refine enP fun u3 EX2=>?_
     go_upto_region 4 with (fail)
     refine rgQ [0,1,2,3,4,5] [] EX2 rfl fun hw=>?_
     refine qw 2 hw ?_
     refine qv rfl (fun u hu=>idxSl_op underlying23 aggTx.size HKN.out u rfl rfl) hw ?_
     refine qv rfl (fun u hu=>load_any_op u (HLD.out u hu) rfl) hw ?_
     refine qc rfl func37 (fun u hu=>HFW.out u (EnvX.bel hu)) hw ?_
     refine qo rfl hw ?_
     refine enP fun u6 EX5=>?_
     have HBE:=hD (EnvX.bel EX5.out)
     have HF2:Hid (∀j,j<k+1→fewX (l.getD j noTxM).r=true):=fun j hj=>by
      by_cases e:j=k
      · rw[e];exact hf
      · exact HF.out j (by omega)
     clear hf
     go_wp2
     go_roundw
     case rel=>exact⟨k+1,by omega,by go_num,HF2.out,HBE.out⟩
     case measure=>simp[intOf];omega
  · obtain rfl:k=n:=by omega
    have HRS:Hid (fewAll l m=decide ((k:Int)≤m)):=by rw[fewAll_all (by rw[HL.out];exact HF.out),HL.out];rfl
    have C2:Hid (decide ((k:Int)<(k:Int))=false):=decide_eq_false (by omega)
    go_upto_region 2 with (fail)
    refine rgQ [0,1,2,3] [] EK rfl fun hw=>?_
    refine qw 2 hw ?_
    refine qv rfl (fun u hu=>len_op underlying23 HN63.out u rfl) hw ?_
    refine qv rfl (fun u hu=>ltZ_op u C2.out rfl rfl) hw ?_
    refine enP fun u3 EX2=>?_
    go_upto_region 7 with (fail)
    refine rgQ [0,1,2,3,4] [] EX2 rfl fun hw=>?_
    refine qo rfl hw ?_
    refine qv rfl (fun u hu=>len_op underlying23 HN63.out u rfl) hw ?_
    refine qo rfl hw ?_
    refine qv rfl (fun u hu=>leZ_op u HRS.out.symm rfl rfl) hw ?_
    refine qo rfl hw ?_
    refine enP fun u6 EX5=>?_
    have HBE:=hD (EnvX.bel EX5.out)
    go_wp2
    go_ret
    exact⟨rfl,HBE.out⟩
def bigX(r:TxR):Prop:=r.ins.length≤1000000∧r.outs.length≤1000000
theorem fewX_big{r:TxR}(h:fewX r=true):bigX r:=by
 unfold fewX at h
 rw[decide_eq_true_eq]at h
 exact⟨by omega,by omega⟩
def midTxs(l:List TxM):Prop:=l.length≤1000000∧ ∀x∈l,bigX x.r
def midTip(t:TipM):Prop:=t.b.l.length≤1000000∧t.p.length≤1000∧t.c.length≤1000∧midTxs t.b.t
def midBlk(b:BlkM):Prop:=b.l.length≤1000000∧midTxs b.t
def IsTip(r:TipR)(t:TipM)(w:World):Prop:=t.r=r∧TipOk w t
def IsBlk(r:BlkR)(b:BlkM)(w:World):Prop:=b.r=r∧BlkOk w b
theorem IsTip.up{r:TipR}{t:TipM}{w w':World}(hb:Below w.heap.size w w')(h:IsTip r t w):IsTip r t w':=⟨h.1,h.2.up hb⟩
theorem tip_turn{f:FuncId}{args:Array Value}{u w0:World}{M:Boxes}{r:TipR}{y:Value}(h:Calls Tryz.prog f args u fun e w'=>(∃t:TipM,e= .returned (.tuple #[tipV t,y])∧IsTip r t w')∧Below u.heap.size u w')(hu:EnvX w0 u M):
  Calls Tryz.prog f args u fun e w'=> ∃x M',e= .returned x∧EnvX w0 w' M'∧ ∃t N,x= .tuple #[tipV t,y]∧M'=N++M∧KeptB w0 N (IsTip r t)∧ ∃v,IsTip r t v:=
 any_turn (V:=fun t=> .tuple #[tipV t,y]) (Q:=IsTip r) (fun t w w' hb h=>h.up hb) h hu
def fewK(b:BlkM):Bool:=fewAll b.t 6&& decide (b.l.length≤40)
theorem fewAll_mid{l:List TxM}(h:fewAll l 6=true):midTxs l:=by
 have h2:=fewAll_len h
 unfold fewAll at h
 rw[Bool.and_eq_true,List.all_eq_true]at h
 exact⟨by omega,fun x hx=>fewX_big (h.1 x hx)⟩
theorem fewK.mid{b:BlkM}(h:fewK b=true):midBlk b∧b.l.length≤40:=by
 unfold fewK at h
 rw[Bool.and_eq_true,decide_eq_true_eq]at h
 exact⟨⟨by omega,fewAll_mid h.1⟩,h.2⟩
theorem zero_blkA:blkA noBlkM=zeroCells37:=by kernel_rfl
theorem zero_tipA:tipA noTipM=zeroCells41:=by kernel_rfl
section
variable {dst:Option Tmp}{ty:TypeId}{pos:String}{after:Array Edge}{gd:Option (Nat × Bool)}
theorem new_blk(a:Act):NewAt Tryz.prog ⟨dst, .alloc 37,ty,pos,after,gd⟩ a (.cells (blkA noBlkM) 37 (0,0)):=fun u=>by
 rw[zero_blkA]
 go_simp
theorem new_tip(a:Act):NewAt Tryz.prog ⟨dst, .alloc 41,ty,pos,after,gd⟩ a (.cells (tipA noTipM) 41 (0,0)):=fun u=>by
 rw[zero_tipA]
 go_simp
end
theorem len_no:lenH noHd:=⟨rfl,rfl,rfl,rfl⟩
theorem tip_sizes{t:TipM}(k:lenH t.b.h):(tipA noTipM).size=(tipA t).size:=(tipA_size (t:=noTipM) len_no).trans (tipA_size k).symm
theorem blk_sizes{b:BlkM}(k:lenH b.h):(blkA noBlkM).size=(blkA b).size:=(blkA_size (b:=noBlkM) len_no).trans (blkA_size k).symm
section
variable {a:Act}{dst:Option Tmp}{x y:Operand}{ty:TypeId}{pos:String}{after:Array Edge}{gd:Option (Nat × Bool)}
theorem eqErr_op{m k:Int}{b:Bool}(u:World)(hb:decide (m=k)=b)(hx:a.eval x= .int .i64 m)(hy:a.eval y= .int .i64 k):
  (execOp a.eval ⟨dst, .binOp .eql 42 x y 42,ty,pos,after,gd⟩).run Tryz.prog u= .ok (.value (.bool b)) u:=by
 have e:(m==k)=b:=by rw[←hb];by_cases h:m=k<;>simp[h]
 subst e
 unfold execOp
 simp only[hx,hy]
 go_simp
end
theorem CoB.some{q:List CoinR}{A:Option Addr}{N:Boxes}(h:CoB q A N)(hok:okP q)(hk:0<q.length): ∃ad,A=some ad:=by
 rcases h with ⟨h,_⟩|⟨ad,_,rfl,_⟩
 · have:=flat35 hok.lens
   rw[h]at this
   simp at this
   omega
 · exact⟨ad,rfl⟩
theorem tip_turn0{f:FuncId}{args:Array Value}{u w0:World}{r:TipR}{y:Value}(h:Calls Tryz.prog f args u fun e w'=>(∃t:TipM,e= .returned (.tuple #[tipV t,y])∧IsTip r t w')∧Below u.heap.size u w')(hu:EnvX w0 u []):
  Calls Tryz.prog f args u fun e w'=> ∃x M',e= .returned x∧EnvX w0 w' M'∧ ∃t N,x= .tuple #[tipV t,y]∧M'=N∧KeptB w0 N (IsTip r t)∧ ∃v,IsTip r t v:=
 (tip_turn h hu).mono fun e w'⟨x,M',he,hE,t,N,hx,hM,hk,hv⟩=>⟨x,M',he,hE,t,N,hx,by rw[hM,List.append_nil],hk,hv⟩
theorem putHd_mid{a b c d:List Value}{k n:Nat}(ha:a.length=k)(hb:b.length=n):(a++(b++c)).take k++d++(a++(b++c)).drop (k+n)=a++(d++c):=by
 rw[List.take_left' ha,←List.drop_drop,List.drop_left' ha,List.drop_left' hb,aA]
theorem putHd_links{h:Hd}(k:lenH h)(v:List Int)(r:List Value):(hdC h++r).take 33++(arrB 32 v).toList++(hdC h++r).drop (33+32)=hdC {h with links:=v}++r:=by
 have:=putHd_mid (a:=[.int .i64 h.height]++(arrB 32 h.prev).toList) (b:=(arrB 32 h.links).toList) (c:=(arrB 32 h.txs).toList++(arrB 32 h.past).toList++(wcs h.work).toList++[.int .u32 h.bits]++[.int .u64 h.nonce]++r) (d:=(arrB 32 v).toList) (k:=33) (n:=32) (by simp only[lA,List.length_cons,List.length_nil,idA_list k.1,idA_list k.2.1,idA_list k.2.2.1,idA_list k.2.2.2,wcs_list]) (idA_list k.2.1)
 unfold hdC
 simp only[aA,List.nil_append]at this ⊢
 exact this
theorem putHd_txs{h:Hd}(k:lenH h)(v:List Int)(r:List Value):(hdC h++r).take 65++(arrB 32 v).toList++(hdC h++r).drop (65+32)=hdC {h with txs:=v}++r:=by
 have:=putHd_mid (a:=[.int .i64 h.height]++(arrB 32 h.prev).toList++(arrB 32 h.links).toList) (b:=(arrB 32 h.txs).toList) (c:=(arrB 32 h.past).toList++(wcs h.work).toList++[.int .u32 h.bits]++[.int .u64 h.nonce]++r) (d:=(arrB 32 v).toList) (k:=65) (n:=32) (by simp only[lA,List.length_cons,List.length_nil,idA_list k.1,idA_list k.2.1,idA_list k.2.2.1,idA_list k.2.2.2,wcs_list]) (idA_list k.2.2.1)
 unfold hdC
 simp only[aA,List.nil_append]at this ⊢
 exact this
theorem putHd_past{h:Hd}(k:lenH h)(v:List Int)(r:List Value):(hdC h++r).take 97++(arrB 32 v).toList++(hdC h++r).drop (97+32)=hdC {h with past:=v}++r:=by
 have:=putHd_mid (a:=[.int .i64 h.height]++(arrB 32 h.prev).toList++(arrB 32 h.links).toList++(arrB 32 h.txs).toList) (b:=(arrB 32 h.past).toList) (c:=(wcs h.work).toList++[.int .u32 h.bits]++[.int .u64 h.nonce]++r) (d:=(arrB 32 v).toList) (k:=97) (n:=32) (by simp only[lA,List.length_cons,List.length_nil,idA_list k.1,idA_list k.2.1,idA_list k.2.2.1,idA_list k.2.2.2,wcs_list]) (idA_list k.2.2.2)
 unfold hdC
 simp only[aA,List.nil_append]at this ⊢
 exact this
theorem putHd_bits{h:Hd}(k:lenH h)(v:Nat)(r:List Value):(hdC h++r).take 133++[.int .u32 v]++(hdC h++r).drop (133+1)=hdC {h with bits:=v}++r:=by
 have:=putHd_mid (a:=[.int .i64 h.height]++(arrB 32 h.prev).toList++(arrB 32 h.links).toList++(arrB 32 h.txs).toList++(arrB 32 h.past).toList++(wcs h.work).toList) (b:=[.int .u32 h.bits]) (c:=[.int .u64 h.nonce]++r) (d:=[.int .u32 v]) (k:=133) (n:=1) (by simp only[lA,List.length_cons,List.length_nil,idA_list k.1,idA_list k.2.1,idA_list k.2.2.1,idA_list k.2.2.2,wcs_list]) rfl
 unfold hdC
 simp only[aA,List.nil_append]at this ⊢
 exact this
def putsAt(place:Nat→Option (Nat × Nat)):List Value→List (Nat × Value)→List Value→Prop
  |zs,[],r=>zs=r
  |zs,(i,v)::ps,r=> ∃o,place i=some (o,v.cells.size)∧o+v.cells.size≤zs.length∧putsAt place (zs.take o++v.cells.toList++zs.drop (o+v.cells.size)) ps r
theorem fill_puts{place:Nat→Option (Nat × Nat)}: ∀(ps:List (Nat × Value))(zs:Array Value)(r:List Value),putsAt place zs.toList ps r→Instr.fill place zs ps=some r.toArray
 |[],zs,r,h=>by
  have h':zs.toList=r:=h
  rw[←h',Array.toArray_toList]
  rfl
 |(i,v)::ps,zs,r,⟨o,h1,h2,h3⟩=>by
  rw[Array.length_toList]at h2
  obtain⟨g1,g2⟩:=Great.foldl_set o v.cells.toList 0 zs
  have e1:v.cells.zipIdx.foldl (fun cs(x:Value × Nat)=>cs.setIfInBounds (o+x.2) x.1) zs=(v.cells.toList.zipIdx 0).foldl (fun cs(x:Value × Nat)=>cs.setIfInBounds (o+x.2) x.1) zs:=by rw[←Array.foldl_toList,Array.toList_zipIdx]
  have e2:=fill_step o v.cells zs h2
  unfold Instr.fill
  simp only[h1,e1]
  split
  · rename_i h
    simp at h
    omega
  · exact fill_puts ps _ r (by rw[e2];exact h3)
theorem built_puts{t:TypeId}{fields:Array Field}{places:List (Nat × Nat)}{cs:List Value}(hu:Tryz.prog.underlying t=some (.struct fields))(hn:(Tryz.prog.info? t).map (fun i=>i.zero.map (·.cells))=some (some cs.toArray))
  (hp:fields.toList.mapM (fun f=>(Tryz.prog.info? f.type).map fun i=>(f.offset,i.size))=some places) {ps:List (Nat × Value)} {r:List Value} (h:putsAt (places.toArray[·]?) cs ps r):Tryz.prog.built t ps=some r.toArray:=by
 cases hq:Tryz.prog.info? t with
 |none=>rw[hq]at hn;cases hn
 | some it=>
  rw[hq]at hn
  simp only[Option.map_some,Option.some.injEq]at hn
  cases hzz:it.zero with
  |none=>rw[hzz]at hn;cases hn
  |some z=>
   rw[hzz]at hn
   simp only[Option.map_some,Option.some.injEq]at hn
   unfold Program.built
   simp only[hq,hu,hzz,hp]
   exact fill_puts ps _ r (by rw[hn];exact h)
theorem puts_id{place:Nat→Option (Nat × Nat)}{zs r:List Value}{i o:Nat}{x:List Int}{ps:List (Nat × Value)}(hx:x.length=32)(h1:place i=some (o,32))(h2:o+32≤zs.length)(h3:putsAt place (zs.take o++(arrB 32 x).toList++zs.drop (o+32)) ps r):putsAt place zs ((i,idv x)::ps) r:=by
 have hz:(arrB 32 x).size=32:=arrB_size _ _ (by rw[hx];omega)
 refine⟨o,?_,?_,?_⟩
 · show place i=some (o,(arrB 32 x).size)
   rw[hz,h1]
 · show o+(arrB 32 x).size≤zs.length
   rw[hz]
   exact h2
 · show putsAt place (zs.take o++(arrB 32 x).toList++zs.drop (o+(arrB 32 x).size)) ps r
   rw[hz]
   exact h3
theorem puts_hd{place:Nat→Option (Nat × Nat)}{zs r:List Value}{i o:Nat}{x:Hd}{ps:List (Nat × Value)}(hx:lenH x)(h1:place i=some (o,135))(h2:o+135≤zs.length)(h3:putsAt place (zs.take o++hdC x++zs.drop (o+135)) ps r):putsAt place zs ((i,hdV x)::ps) r:=by
 have hz:(hdA x).size=135:=hdA_size hx
 refine⟨o,?_,?_,?_⟩
 · show place i=some (o,(hdA x).size)
   rw[hz,h1]
 · show o+(hdA x).size≤zs.length
   rw[hz]
   exact h2
 · show putsAt place (zs.take o++hdC x++zs.drop (o+(hdA x).size)) ps r
   rw[hz]
   exact h3
theorem puts_blk{place:Nat→Option (Nat × Nat)}{zs r:List Value}{i o:Nat}{x:BlkM}{ps:List (Nat × Value)}(hx:lenH x.h)(h1:place i=some (o,137))(h2:o+137≤zs.length)(h3:putsAt place (zs.take o++blkC x++zs.drop (o+137)) ps r):putsAt place zs ((i,blkV x)::ps) r:=by
 have hz:(blkA x).size=137:=blkA_size hx
 refine⟨o,?_,?_,?_⟩
 · show place i=some (o,(blkA x).size)
   rw[hz,h1]
 · show o+(blkA x).size≤zs.length
   rw[hz]
   exact h2
 · show putsAt place (zs.take o++blkC x++zs.drop (o+(blkA x).size)) ps r
   rw[hz]
   exact h3
theorem puts_one{place:Nat→Option (Nat × Nat)}{zs r:List Value}{i o:Nat}{v:Value}{ps:List (Nat × Value)}(hv:v.cells= #[v])(h1:place i=some (o,1))(h2:o+1≤zs.length)(h3:putsAt place (zs.take o++[v]++zs.drop (o+1)) ps r):putsAt place zs ((i,v)::ps) r:=by
 refine⟨o,?_,?_,?_⟩
 · rw[hv];exact h1
 · rw[hv];exact h2
 · rw[hv];exact h3
theorem built_hdF{x y z:List Int}{n:Nat}(hx:x.length=32)(hy:y.length=32)(hz:z.length=32):Tryz.prog.built 34 [(2,idv x),(3,idv y),(4,idv z),(6, .int .u32 (n:Int))]=some (hdA ⟨0,z32,x,y,z,0,n,0⟩):=by
 have l0:(hdC noHd).length=135:=hdC_len (h:=noHd) len_no
 have p1:=putHd_links (h:=noHd) len_no x []
 have k1:lenH {noHd with links:=x}:=⟨rfl,hx,rfl,rfl⟩
 have p2:=putHd_txs k1 y []
 have k2:lenH {noHd with links:=x,txs:=y}:=⟨rfl,hx,hy,rfl⟩
 have p3:=putHd_past k2 z []
 have k3:lenH {noHd with links:=x,txs:=y,past:=z}:=⟨rfl,hx,hy,hz⟩
 have p4:=putHd_bits k3 n []
 simp only[List.append_nil]at p1 p2 p3 p4
 refine built_puts (cs:=hdC noHd) underlying34 (by kernel_rfl) (places:=[(0,1),(1,32),(33,32),(65,32),(97,32),(129,4),(133,1),(134,1)]) (by kernel_rfl) ?_
 refine puts_id (o:=33) hx rfl (by rw[l0];decide) ?_
 rw[p1]
 refine puts_id (o:=65) hy rfl (by rw[hdC_len k1];decide) ?_
 rw[p2]
 refine puts_id (o:=97) hz rfl (by rw[hdC_len k2];decide) ?_
 rw[p3]
 refine puts_one (o:=133) rfl rfl (by rw[hdC_len k3];decide) ?_
 rw[p4]
 rfl
theorem blkC_put{h h':Hd}(k:lenH h)(r:List Value):(hdC h++r).take 0++hdC h'++(hdC h++r).drop (0+135)=hdC h'++r:=by
 rw[List.take_zero,List.nil_append,Nat.zero_add,List.drop_left' (hdC_len k)]
theorem at_end{a r s:List Value}{v:Value}{n:Nat}(ha:a.length=n)(hr:r.length=1):(a++(r++s)).take n++[v]++(a++(r++s)).drop (n+1)=a++([v]++s):=putHd_mid ha hr
theorem built_blkH{h:Hd}(k:lenH h):Tryz.prog.built 37 [(0,hdV h)]=some (blkA ⟨h,[],none,0,0,[],none,0,0⟩):=by
 refine built_puts (cs:=blkC noBlkM) underlying37 (by kernel_rfl) (places:=[(0,135),(135,1),(136,1)]) (by kernel_rfl) ?_
 refine puts_hd (o:=0) k rfl (by rw[blkC_len (b:=noBlkM) len_no];decide) ?_
 show putsAt _ ((hdC noHd++_).take 0++hdC h++(hdC noHd++_).drop (0+135)) _ _
 rw[blkC_put len_no]
 rfl
theorem built_blk{b:BlkM}(k:lenH b.h):Tryz.prog.built 37 [(0,hdV b.h),(1,Value.slice b.A1 b.n1 b.c1),(2,Value.slice b.A2 b.n2 b.c2)]=some (blkA b):=by
 have l1: ∀x y:Value,(hdC b.h++[x,y]).length=137:=fun x y=>by rw[lA,hdC_len k];rfl
 refine built_puts (cs:=blkC noBlkM) underlying37 (by kernel_rfl) (places:=[(0,135),(135,1),(136,1)]) (by kernel_rfl) ?_
 refine puts_hd (o:=0) k rfl (by rw[blkC_len (b:=noBlkM) len_no];decide) ?_
 show putsAt _ ((hdC noHd++[Value.slice none 0 0,Value.slice none 0 0]).take 0++hdC b.h++(hdC noHd++[Value.slice none 0 0,Value.slice none 0 0]).drop (0+135)) _ _
 rw[blkC_put len_no]
 refine puts_one (o:=135) rfl rfl (by rw[l1];decide) ?_
 rw[show hdC b.h++[Value.slice none 0 0,Value.slice none 0 0]=hdC b.h++([Value.slice none 0 0]++[Value.slice none 0 0])from rfl,at_end (hdC_len k) rfl]
 refine puts_one (o:=136) rfl rfl (by rw[show hdC b.h++([Value.slice b.A1 b.n1 b.c1]++[Value.slice none 0 0])=hdC b.h++[Value.slice b.A1 b.n1 b.c1,Value.slice none 0 0]from rfl,l1];decide) ?_
 rw[show hdC b.h++([Value.slice b.A1 b.n1 b.c1]++[Value.slice none 0 0])=(hdC b.h++[Value.slice b.A1 b.n1 b.c1])++([Value.slice none 0 0]++[])by rw[List.append_nil,aA],at_end (by rw[lA,hdC_len k];rfl) rfl]
 show _=blkC b
 unfold blkC
 rw[List.append_nil,aA]
 rfl
theorem tipC_put{b b':BlkM}(k:lenH b.h)(r:List Value):(blkC b++r).take 0++blkC b'++(blkC b++r).drop (0+137)=blkC b'++r:=by
 rw[List.take_zero,List.nil_append,Nat.zero_add,List.drop_left' (blkC_len k)]
theorem built_tip2{b:BlkM}{p:List Tot}{A:Option Addr}{n c:Nat}(k:lenH b.h):Tryz.prog.built 41 [(0,blkV b),(1,Value.slice A n c)]=some (tipA ⟨b,p,A,n,c,[],none,0,0⟩):=by
 have l1: ∀x y:Value,(blkC b++[x,y]).length=139:=fun x y=>by rw[lA,blkC_len k];rfl
 refine built_puts (cs:=tipC noTipM) underlying41 (by kernel_rfl) (places:=[(0,137),(137,1),(138,1)]) (by kernel_rfl) ?_
 refine puts_blk (o:=0) k rfl (by rw[tipC_len (t:=noTipM) len_no];decide) ?_
 show putsAt _ ((blkC noBlkM++[Value.slice none 0 0,Value.slice none 0 0]).take 0++blkC b++(blkC noBlkM++[Value.slice none 0 0,Value.slice none 0 0]).drop (0+137)) _ _
 rw[tipC_put (b:=noBlkM) len_no]
 refine puts_one (o:=137) rfl rfl (by rw[l1];decide) ?_
 rw[show blkC b++[Value.slice none 0 0,Value.slice none 0 0]=blkC b++([Value.slice none 0 0]++[Value.slice none 0 0])from rfl,at_end (blkC_len k) rfl]
 rfl
theorem built_tip{t:TipM}(k:lenH t.b.h):Tryz.prog.built 41 [(0,blkV t.b),(1,Value.slice t.A3 t.n3 t.c3),(2,Value.slice t.A4 t.n4 t.c4)]=some (tipA t):=by
 have l1: ∀x y:Value,(blkC t.b++[x,y]).length=139:=fun x y=>by rw[lA,blkC_len k];rfl
 refine built_puts (cs:=tipC noTipM) underlying41 (by kernel_rfl) (places:=[(0,137),(137,1),(138,1)]) (by kernel_rfl) ?_
 refine puts_blk (o:=0) k rfl (by rw[tipC_len (t:=noTipM) len_no];decide) ?_
 show putsAt _ ((blkC noBlkM++[Value.slice none 0 0,Value.slice none 0 0]).take 0++blkC t.b++(blkC noBlkM++[Value.slice none 0 0,Value.slice none 0 0]).drop (0+137)) _ _
 rw[tipC_put (b:=noBlkM) len_no]
 refine puts_one (o:=137) rfl rfl (by rw[l1];decide) ?_
 rw[show blkC t.b++[Value.slice none 0 0,Value.slice none 0 0]=blkC t.b++([Value.slice none 0 0]++[Value.slice none 0 0])from rfl,at_end (blkC_len k) rfl]
 refine puts_one (o:=138) rfl rfl (by rw[show blkC t.b++([Value.slice t.A3 t.n3 t.c3]++[Value.slice none 0 0])=blkC t.b++[Value.slice t.A3 t.n3 t.c3,Value.slice none 0 0]from rfl,l1];decide) ?_
 rw[show blkC t.b++([Value.slice t.A3 t.n3 t.c3]++[Value.slice none 0 0])=(blkC t.b++[Value.slice t.A3 t.n3 t.c3])++([Value.slice none 0 0]++[])by rw[List.append_nil,aA],at_end (by rw[lA,blkC_len k];rfl) rfl]
 show _=tipC t
 unfold tipC
 rw[List.append_nil,aA]
 rfl
theorem built_blk0:Tryz.prog.built 37 []=some (blkA noBlkM):=by kernel_rfl
theorem built_tip0:Tryz.prog.built 41 []=some (tipA noTipM):=by kernel_rfl
theorem z32_id:isId z32:=⟨rfl,fun y hy=>by rw[List.eq_of_mem_replicate hy];decide⟩
theorem idH_id(h:Hd):isId (idH h):=by
 unfold idH
 split
 · exact sumL_id _
 · exact z32_id
theorem workH_lt(h:Hd):workH h<Big:=by
 unfold workH
 split
 · exact wkV_lt _
 · unfold Big;decide
theorem levelH_i64(h:Hd):I64 (levelH h):=by
 unfold levelH I64
 split
 · split
   · omega
   · have:=lvI_le (numB (idH h)) (tv h.bits)
     omega
 · omega
theorem leafH_ok(h:Hd):okT (leafH h):=⟨idH_id h,workH_lt h,by show-9223372036854775808≤(1:Int);omega,by show (1:Int)≤_;omega⟩
theorem wrap_i64I(x:Int):I64 (IntKind.i64.wrap x):=by
 unfold I64
 rw[IntKind.wrap_i64]
 omega
theorem nextK_ok{t:TipR}(l:List TxR){nonce:Nat}(hp:okTs t.p)(hb:t.b.h.bits<4294967296)(hn:nonce<18446744073709551616):okHd (nextK t l nonce):=
 ⟨wrap_i64I _,idH_id _,root_id (leavesL_ids _),root_id (idsX_ids _),(root_ok hp).1,(root_ok hp).2.1,hb,hn⟩
theorem linksK_ids{t:TipR}(hl:isIds t.b.l):isIds (linksK t):=next_ids hl (idH_id _)
theorem linksK_len(t:TipR):(linksK t).length≤32:=next_len
theorem getD_el{α:Type}(d:α){l:List α}{j:Nat}(h:j<l.length):l.getD j d=l[j]:=by
 rw[gD,gE h]
 rfl
theorem row_get{cs:List Value}{L:List (List Value)}{z n j:Nat}(hL:isRows z L)(hn:L.length=n)(hc:cs.take (n*z)=L.flatten)(hj:j<n):(cs.drop (0+j*z)).take z=L.getD j []:=by
 have h1:j*z+z≤n*z:=by
  have:=Nat.mul_le_mul_right z (show j+1≤n from hj)
  rwa[Nat.succ_mul]at this
 have e:(cs.drop (0+j*z)).take z=((cs.take (n*z)).drop (j*z)).take z:=by
  rw[Nat.zero_add,List.drop_take,List.take_take,Nat.min_eq_left (by omega)]
 rw[e,hc,←hL.flat_drop]
 have hlt:j<L.length:=by omega
 rw[List.drop_eq_getElem_cons hlt,List.flatten_cons,List.take_left' (hL _ (List.getElem_mem hlt)),getD_el [] hlt]
theorem row_set{cs:List Value}{L:List (List Value)}{z n k:Nat}{v:List Value}(hL:isRows z L)(hn:L.length=n)(hc:cs.take (n*z)=L.flatten)(hk:k<n)(hv:v.length=z):
  (cs.take (0+k*z)++v++cs.drop (0+k*z+z)).take (n*z)=(L.set k v).flatten:=by
 have h1:k*z+z≤n*z:=by
  have:=Nat.mul_le_mul_right z (show k+1≤n from hk)
  rwa[Nat.succ_mul]at this
 have hF:L.flatten.length=n*z:=by rw[hL.flat_len,hn]
 obtain⟨R,hR⟩: ∃R,cs=L.flatten++R:=⟨cs.drop (n*z),by rw[←hc,List.take_append_drop]⟩
 have hlt:k<L.length:=by omega
 have es:(L.set k v).flatten=L.flatten.take (k*z)++v++L.flatten.drop (k*z+z):=by
  rw[List.set_eq_take_append_cons_drop,if_pos hlt,List.flatten_append,List.flatten_cons,hL.flat_take,hL.flat_drop,Nat.succ_mul,aA]
 have hta:(L.flatten++R).take (k*z)=L.flatten.take (k*z):=List.take_append_of_le_length (by omega)
 have hda:(L.flatten++R).drop (k*z+z)=L.flatten.drop (k*z+z)++R:=List.drop_append_of_le_length (by omega)
 rw[es,Nat.zero_add,hR,hta,hda,←aA]
 refine List.take_left' ?_
 rw[lA,lA,List.length_take,List.length_drop,hF,hv]
 omega
theorem row_put_len{cs:List Value}{z n k c:Nat}{v:List Value}(hk:k<n)(hn:n≤c)(hv:v.length=z)(hc:cs.length=c*z):(cs.take (0+k*z)++v++cs.drop (0+k*z+z)).length=c*z:=by
 have h1:k*z+z≤c*z:=by
  have:=Nat.mul_le_mul_right z (show k+1≤c by omega)
  rwa[Nat.succ_mul]at this
 rw[lA,lA,List.length_take,List.length_drop,hv,hc]
 omega
section
variable {a:Act}{dst:Option Tmp}{x y:Operand}{ty:TypeId}{pos:String}{after:Array Edge}{gd:Option (Nat × Bool)}
theorem idxSl0_op{t e:TypeId}{z:Nat}(hu:Tryz.prog.underlying t=some (.slice e))(hz:(Tryz.prog.info? e).map (·.size)=some z){g n c i:Nat}(hi:i<n)(u:World)
  (hx:a.eval x= .slice (some ⟨g,0,none⟩) n c) (hy:a.eval y= .int .i64 (i:Int)):
  (execOp a.eval ⟨dst, .indexAddr t x y,ty,pos,after,gd⟩).run Tryz.prog u= .ok (.value (.pointer (some ⟨g,0+i*z,none⟩))) u:=by
 have h:=idxSl_op (dst:=dst) (ty:=ty) (pos:=pos) (after:=after) (gd:=gd) hu hz hi u hx hy
 rwa[Addr.add_mid]at h
end
theorem src_in{w u:World}{ad:Addr}{ys:List Value}(h:CellsIn w w.heap.size (some ad) ys)(hb:Below w.heap.size w u):SrcAt u ad ys:=fun j c hc=>by
 have hp:0<ys.length:=by
  rcases Nat.eq_zero_or_pos ys.length with h0|h0
  · rw[List.eq_nil_of_length_eq_zero h0]at hc
    simp at hc
  · exact h0
 obtain⟨ad',e,hlt,hcc⟩:=h hp
 obtain rfl:=Option.some.inj e
 have hbl:(ad.add j).block=ad.block:=by unfold Addr.add;split<;>rfl
 exact(hb.cell (p:=ad.add j) (by rw[hbl];exact hlt)).trans (hcc j c hc)
theorem put_factsZ{ty:TypeId}{z:Nat}(hs:(Tryz.prog.info? ty).map (·.size)=some z){v old cs:Array Value}{k:Nat}(hv:v.size=z)(h1:v.all (·.oneCell')=true)(hk:k+z≤old.size)(hcs:cs.toList=old.toList.take k++v.toList++old.toList.drop (k+z)):
  (Tryz.prog.info? ty).map (·.size)=some (Value.agg v).cells.size∧k+(Value.agg v).cells.size≤old.size∧(Value.agg v).cells.all (·.oneCell')=true∧old.toList.take k++(Value.agg v).cells.toList++old.toList.drop (k+(Value.agg v).cells.size)=cs.toList:=by
 have hz:(Value.agg v).cells.size=z:=hv
 refine⟨by rw[hz];exact hs,by rw[hz];exact hk,h1,?_⟩
 rw[hz,hcs]
 rfl
theorem elIdL:ElemT 35 26 32 32 (.agg (arrB 32 [])):=⟨underlying35,by kernel_rfl,arrB_size _ _ (by simp),by decide,by decide,by decide⟩
theorem ids_rows{l:List (List Int)}(h:isIds l):isRows 32 (l.map (·.map u8v)):=fun x hx=>by
 obtain⟨y,hy,rfl⟩:=List.mem_map.1 hx
 rw[lM]
 exact(h y hy).1
theorem ids_flat(l:List (List Int)):(l.map (·.map u8v)).flatten=l.flatten.map u8v:=by rw[List.map_flatten]
theorem u8_ones{xs:List Int}: ∀u∈xs.map u8v,u.oneCell'=true:=fun u hu=>by
 obtain⟨z,_,rfl⟩:=List.mem_map.1 hu
 rfl
theorem setI_facts{X:List (List Int)}{id:List Int}{n k cap:Nat}{cur:Array Value}(hX:isIds X)(hl:X.length=n)(hid:id.length=32)(hk:k<n)(h1:n≤cap)(hs:cur.size=cap*32)(hc:cur.toList.take (n*32)=X.flatten.map u8v):
  ∃cs:Array Value,((Tryz.prog.info? 26).map (·.size)=some (Value.agg (arrB 32 id)).cells.size∧0+k*32+(Value.agg (arrB 32 id)).cells.size≤cur.size∧(Value.agg (arrB 32 id)).cells.all (·.oneCell')=true∧cur.toList.take (0+k*32)++(Value.agg (arrB 32 id)).cells.toList++cur.toList.drop (0+k*32+(Value.agg (arrB 32 id)).cells.size)=cs.toList)∧
   cs.size=cap*32∧cs.toList.take (n*32)=(X.set k id).flatten.map u8v:=by
 have hz:(arrB 32 id).size=32:=arrB_size _ _ (by omega)
 have hcl:cur.toList.length=cap*32:=by rw[Array.length_toList,hs]
 have hv:(id.map u8v).length=32:=by rw[lM,hid]
 have hr:=row_set (cs:=cur.toList) (L:=X.map (·.map u8v)) (z:=32) (n:=n) (k:=k) (v:=id.map u8v) (ids_rows hX) (by rw[lM,hl]) (by rw[ids_flat];exact hc) hk hv
 have hln:=row_put_len (cs:=cur.toList) (z:=32) (n:=n) (k:=k) (c:=cap) (v:=id.map u8v) hk h1 hv hcl
 obtain⟨cs,hcs⟩: ∃cs:Array Value,cs.toList=cur.toList.take (0+k*32)++id.map u8v++cur.toList.drop (0+k*32+32):=⟨_,List.toList_toArray⟩
 rw[←hcs]at hr hln
 refine⟨cs,put_factsZ aggIdT.size hz (arrB_one _ _) (by rw[hs];omega) (by rw[hcs,arrId_map hid]),by rw[←Array.length_toList];exact hln,?_⟩
 rw[hr,←ids_flat,List.map_set]
def NInv(w:World)(id:List Int)(X:List (List Int))(v:Value)(u:World):Prop:= ∃N,FreshI X v N∧freshN w N [(w.heap.size,oc (arrB 32 id) 26)]∧EnvX w u (N++[(w.heap.size,oc (arrB 32 id) 26)])
theorem fresh_idsB{l:List (List Int)}{n c:Nat}{A:Option Addr}{N:Boxes}{u:World}(h:FreshR 26 32 n (l.flatten.map u8v) (.slice A n c) N)(hI:isIds l)(hN: ∀y∈N,u.heap[y.1]?=some y.2)(hl:l.length=n:=by rfl):IdsIn u u.heap.size A l:=
 OwnI.ids (B:=0) (by subst hl;exact FreshR.own h (by rw[lM];exact hI.flat_len) (fun y hy=>⟨Nat.zero_le _,hN y hy⟩))
theorem fresh_totsB{l:List Tot}{n c:Nat}{A:Option Addr}{N:Boxes}{u:World}(h:FreshR 61 37 n (l.map totC).flatten (.slice A n c) N)(hl:l.length=n)(ho:okTs l)(hN: ∀y∈N,u.heap[y.1]?=some y.2):TotsIn u u.heap.size A l:=
 own_cells (h.own (B:=0) (by rw[flatT_len ho,hl]) (fun y hy=>⟨Nat.zero_le _,hN y hy⟩))
theorem rsT_get{l:List TxM}{i:Nat}(h:i<l.length):(rsT l).getD i noTx=(l.getD i noTxM).r:=by
 unfold rsT
 rw[gD,List.getElem?_map,gD,gE h]
 rfl
theorem rsT_ext{l q:List TxM}(hl:l.length=q.length)(h: ∀j,j<l.length→(l.getD j noTxM).r=(q.getD j noTxM).r):rsT l=rsT q:=by
 unfold rsT
 refine List.ext_getElem (by rw[lM,lM,hl]) fun j h1 h2=>?_
 rw[lM]at h1 h2
 have:=h j h1
 rw[gD,gD,gE h1,gE h2]at this
 rw[List.getElem_map,List.getElem_map]
 exact this
theorem headK_ok{bits:Nat}(hb:bits<4294967296):okHd (headK bits):=
 ⟨⟨by show (-9223372036854775808:Int)≤0;omega,by show (0:Int)≤_;omega⟩,z32_id,root_id (l:=[]) (fun x h=>by cases h),root_id (l:=[]) (fun x h=>by cases h),noTot_ok.1,by show 0<Big;unfold Big;decide,hb,by show 0<_;omega⟩
theorem tip_first{bits:Nat}(hb:bits<4294967296){A1:Option Addr}{c1:Nat}{N1:Boxes}{u:World}(hF:FreshR 61 37 (appT [] (leafH (headK bits))).length ((appT [] (leafH (headK bits))).map totC).flatten (.slice A1 (appT [] (leafH (headK bits))).length c1) N1)(h1:(appT [] (leafH (headK bits))).length≤c1)(h2:c1≤maxLen)(hN: ∀y∈N1,u.heap[y.1]?=some y.2):
  IsTip (tipK bits) ⟨⟨headK bits,[],none,0,0,[],none,0,0⟩,appT [] (leafH (headK bits)),A1,(appT [] (leafH (headK bits))).length,c1,[],none,0,0⟩ u:=by
 have hap:okTs (appT [] (leafH (headK bits))):=app_ok (fun _ h=>by cases h) (leafH_ok _)
 refine⟨rfl,⟨⟨headK_ok hb,rfl,⟨Nat.le_refl _,Nat.zero_le _⟩,(fun x h=>by cases h),(fun h=>absurd h (Nat.lt_irrefl 0)),rfl,⟨Nat.le_refl _,Nat.zero_le _⟩,⟨fun h=>absurd h (Nat.lt_irrefl 0),fun t h=>by cases h⟩⟩,rfl,⟨h1,h2⟩,hap,fresh_totsB hF rfl hap hN,rfl,⟨Nat.le_refl _,Nat.zero_le _⟩,(fun x h=>by cases h),(fun h=>absurd h (Nat.lt_irrefl 0))⟩⟩
section
variable {t:TipR}{b:BlkR}{K:Hd}
theorem push_e3(h:48≤b.h.height):pushK t b=(t,3):=by unfold pushK;rw[if_pos h]
theorem push_e5(hK:nextK t b.t b.h.nonce=K)(h1: ¬48≤b.h.height)(h: ¬(b.h.height=K.height∧b.h.prev=K.prev∧b.h.bits=K.bits)):pushK t b=(t,5):=by subst hK;unfold pushK;rw[if_neg h1,if_pos h]
theorem push_e6(hK:nextK t b.t b.h.nonce=K)(h1: ¬48≤b.h.height)(h2:b.h.height=K.height∧b.h.prev=K.prev∧b.h.bits=K.bits)(h: ¬(b.l=linksK t∧b.h.links=K.links)):pushK t b=(t,6):=by subst hK;unfold pushK;rw[if_neg h1,if_neg (fun k=>k h2),if_pos h]
theorem push_e7(hK:nextK t b.t b.h.nonce=K)(h1: ¬48≤b.h.height)(h2:b.h.height=K.height∧b.h.prev=K.prev∧b.h.bits=K.bits)(h3:b.l=linksK t∧b.h.links=K.links)(h: ¬(b.h.txs=K.txs∧b.h.past=K.past∧b.h.work=K.work)):pushK t b=(t,7):=by
 subst hK;unfold pushK;rw[if_neg h1,if_neg (fun k=>k h2),if_neg (fun k=>k h3),if_pos h]
theorem push_rest(hK:nextK t b.t b.h.nonce=K)(h1: ¬48≤b.h.height)(h2:b.h.height=K.height∧b.h.prev=K.prev∧b.h.bits=K.bits)(h3:b.l=linksK t∧b.h.links=K.links)(h4:b.h.txs=K.txs∧b.h.past=K.past∧b.h.work=K.work):
  pushK t b=if mayH b.h=false then (t,4)else if (applyP t.c b.t).2≠0 then (t,(applyP t.c b.t).2)else (⟨b,appT t.p (leafH b.h),(applyP t.c b.t).1⟩,0):=by
 subst hK;unfold pushK;rw[if_neg h1,if_neg (fun k=>k h2),if_neg (fun k=>k h3),if_neg (fun k=>k h4)]
end
theorem apply_okP{p:List CoinR}(hp:okP p)(l:List TxR){d:List CoinR}{e:Nat}(h:applyP p l=(d,e)):okP d:=by
 cases hm:mayP p with
 |false=>
  unfold applyP at h
  rw[if_pos hm]at h
  cases h
  exact hp
 |true=>
  have h1:=apply_all hp.id hm l
  rw[h]at h1
  simp only at h1
  have h2:=mayP_iff.1 h1.1
  exact okP_of h1.2.1 h2.2.1
theorem CoB.apart {q:List CoinR} {A:Option Addr} {N M:Boxes} {w0 u:World} (h:CoB q A N) (hq:okP q) (hu:EnvX w0 u M) (hN: ∀y∈N,y∈M) {g:Nat} {cs:Array Value} {ty:TypeId} (hg:(g,oc cs ty)∈M) (hcs: ∀(k:Nat)(i:Int),32≤k→cs[k]?≠Option.some (.int .i64 i)): ∃N',CoB q A N'∧ ∀y∈N',y∈N∧y.1≠g:=by
 by_cases h0:(q.map coC).flatten=[]
 · exact⟨[], .inl ⟨h0,rfl⟩,fun y hy=>by cases hy⟩
 · rcases h with ⟨h1,_⟩|⟨ad,o,rfl,rfl,hc⟩
   · exact absurd h1 h0
   · refine⟨_, .inr ⟨ad,o,rfl,rfl,hc⟩,fun y hy=>⟨hy,?_⟩⟩
     cases mS.1 hy
     intro e
     cases q with
     |nil=>exact h0 rfl
     | cons c r=>
      have hx:c.tx.length=32:=(hq c (List.mem_cons_self ..)).1.1
      have e1:(((c::r).map coC).flatten)[32]?=Option.some (.int .i64 c.i):=by
       have hl:(arrB 32 c.tx).toList.length=32:=idA_list hx
       show ((((arrB 32 c.tx).toList++[Value.int .i64 c.i])++outC (outK c))++(r.map coC).flatten)[32]?=_
       rw[aA,aA,List.getElem?_append_right (by rw[hl];exact Nat.le_refl _),hl]
       rfl
      have e2:=hc u (hu.box _ _ (hN _ (mS.2 rfl))) 32 _ e1
      have e3:u.heap[g]?=Option.some (oc cs ty):=hu.box _ _ hg
      unfold World.cell? at e2
      rw[show (ad.add 32).block=g from (block_of_add _ _).trans e,e3]at e2
      have e4:(ad.add 32).off=ad.off+32:=rfl
      simp only at e2
      split at e2
      · cases e2
      · rw[e4]at e2
        exact hcs _ _ (by omega) e2
theorem tip_noint: ∀(k:Nat)(i:Int),32≤k→(tipA noTipM)[k]?≠some (.int .i64 i):=by
 have hk: ∀k:Nat,k<107→(match (tipA noTipM)[k+32]? with|some (.int .i64 _)=>false|_=>true)=true:=by decide+kernel
 intro k i h e
 rcases Nat.lt_or_ge k 139 with h1|h1
 · have:=hk (k- 32) (by omega)
   rw[show k- 32+32=k by omega,e]at this
   cases this
 · rw[Array.getElem?_eq_none (by rw[tipA_size (t:=noTipM) len_no];exact h1)]at e
   cases e
section
variable {a:Act}{dst:Option Tmp}{x y:Operand}{ty:TypeId}{pos:String}{after:Array Edge}{gd:Option (Nat × Bool)}
end
section
variable {t:TipR}{l:List TxR}{nonce:Nat}{tries:Int}{K:Hd}
theorem mine_e3(hK:nextK t l nonce=K)(h:48≤K.height):mineK t l nonce tries=(noBlk,3):=by subst hK;unfold mineK;rw[if_pos h]
theorem mine_ee(hK:nextK t l nonce=K)(h1: ¬48≤K.height)(h:(applyP t.c l).2≠0):mineK t l nonce tries=(noBlk,(applyP t.c l).2):=by subst hK;unfold mineK;rw[if_neg h1,if_pos h]
theorem mine_e4(hK:nextK t l nonce=K)(h1: ¬48≤K.height)(h2: ¬(applyP t.c l).2≠0)(h:(mineH K tries).2=false):mineK t l nonce tries=(noBlk,4):=by subst hK;unfold mineK;rw[if_neg h1,if_neg h2,if_pos h]
theorem mine_go(hK:nextK t l nonce=K)(h1: ¬48≤K.height)(h2: ¬(applyP t.c l).2≠0)(h:(mineH K tries).2=true):mineK t l nonce tries=(⟨(mineH K tries).1,linksK t,l⟩,0):=by subst hK;unfold mineK;rw[if_neg h1,if_neg h2,if_neg (by rw[h];decide)]
theorem okHd_mineB{h:Hd}(hh:okHd h)(tries:Int):okHd (mineH h tries).1:=by
 unfold mineH
 split
 · exact okHd_nonce hh _
 · exact hh
end
theorem bcellsBlk:Tryz.prog.cellsOf 37=137:=by kernel_rfl
theorem bcellsIds:Tryz.prog.cellsOf 35=1:=by kernel_rfl
theorem bcellsTxs:Tryz.prog.cellsOf 23=1:=by kernel_rfl
theorem cut3{cs a b c:List Value}{i j:Nat}(h0:(cs.drop 0).take i=a)(h1:(cs.drop i).take 1=b)(h2:(cs.drop (i+1)).take 1=c)(hl:cs.length=i+1+1):cs=a++(b++c):=by
 have h3:(cs.drop (i+1)).take 1=cs.drop (i+1):=tL (by rw[List.length_drop];omega)
 rw[h3,←List.drop_drop]at h2
 rw[List.drop_zero]at h0
 rw[←h0,←h1,←h2,List.take_append_drop,List.take_append_drop]
section
variable {H:Type}{enc:TypeId × Value→H}{W:World}{base:Nat}{v:Value}{d:DataW H}{p:List MemPlace}{fuel:Nat}{cs:List Value}{x:DataW H × List MemPlace}
end
end Go.Proofs.YtojmeodoenkapaaGreatDoor
