/-
  PROVED: the law stepladderlaw11.BlockFirst answers true for every input, and leaves its arguments as they were.
  Conditions: the two package-level tables of package sha hold at the call what their initialisers lay; the card ties that to the text of the program (a pruned copy of the project: the packages that the roots of this seat load).
-/
import Derived.Test.YtpanpohdnbgdpaaGreatDoorZj
open Go.Proofs.Tryz
namespace Go.Proofs.YtpanpohdnbgdpaaGreatDoor
set_option maxRecDepth 20000
set_option maxHeartbeats 8000000
set_option linter.unusedVariables false
set_option linter.unusedSimpArgs false
open Go.RowKit
theorem neq_op {m n : Nat} (hm : m < Big) (hn : n < Big) {b : Bool} (hb : (!eqN m n) = b) {a : Act} {dst : Option Tmp} {x y : Operand} {ty : TypeId} {pos : String} {after : Array Edge} {gd : Option (Nat × Bool)} (hx : a.eval x = .agg (wcs m)) (hy : a.eval y = .agg (wcs n)) (u : World) :
  (execOp a.eval ⟨dst, .binOp .neq 26 x y 26, ty, pos, after, gd⟩).run Tryz.prog u = .ok (.value (.bool b)) u := by
 have h : (Op.equalIn 10000 26 (.agg (wcs m)) (.agg (wcs n))).run Tryz.prog u = .ok (eqN m n) u := run_equal_wide m n hm hn u
 subst hb
 generalize eqN m n = b at *
 unfold execOp
 simp only [hx, hy]
 generalize wcs m = cm at *
 generalize wcs n = cn at *
 go_simp
theorem first_may {bits : Nat} (h : isC bits = true) : mayH (headK bits) = true := by
 unfold mayH
 rw [first_level h]
 rfl
theorem first_head (a b : Nat) : headK a = headK b ↔ a = b := ⟨fun h => congrArg Hd.bits h, fun h => by rw [h]⟩
theorem neN_f {a b : Nat} (h : a = b) : (!eqN a b) = false := by unfold eqN; simp [h]
section
variable {t : TipR} {b : BlkR} {K : Hd}
end
section
variable {a : Act} {dst : Option Tmp} {x y : Operand} {ty : TypeId} {pos : String} {after : Array Edge} {gd : Option (Nat × Bool)}
theorem neqWk_op {m n : Nat} (hm : m < Big) (hn : n < Big) {b : Bool} (hb : (!eqN m n) = b) (u : World) (hx : a.eval x = .agg (wcs m)) (hy : a.eval y = .agg (wcs n)) :
 (execOp a.eval ⟨dst, .binOp .neq 26 x y 26, ty, pos, after, gd⟩).run Tryz.prog u = .ok (.value (.bool b)) u := neq_op hm hn hb hx hy u
end
theorem midTip_first (bits : Nat) {t : TipM} (h : t.r = tipK bits) : midTip t ∧ t.b.l = [] ∧ t.p = [leafH (headK bits)] ∧ t.c = [] ∧ t.b.t = [] ∧ t.b.h = headK bits := by
 have h1 : t.b.l = [] := congrArg (fun t : TipR => t.b.l) h
 have h2 : t.p = [leafH (headK bits)] := congrArg (fun t : TipR => t.p) h
 have h3 : t.c = [] := congrArg (fun t : TipR => t.c) h
 have h4 : rsT t.b.t = [] := congrArg (fun t : TipR => t.b.t) h
 have h5 : t.b.h = headK bits := congrArg (fun t : TipR => t.b.h) h
 refine ⟨?_, h1, h2, h3, List.map_eq_nil_iff.1 h4, h5⟩
 show _ ∧ _ ∧ _ ∧ _
 rw [h1, h2, h3]
 exact ⟨by decide, by show 1 ≤ 1000; omega, by decide, midTxs_nil h4⟩
theorem eqlU32k_opF {a : Act} {dst : Option Tmp} {x y : Operand} {ty : TypeId} {pos : String} {after : Array Edge} {gd : Option (Nat × Bool)} {m k : Int} {b : Bool} (u : World) (hb : decide (m = k) = b) (hx : a.eval x = .int .u32 m) (hy : a.eval y = .int .u32 k) :
  (execOp a.eval ⟨dst, .binOp .eql 27 x y 27, ty, pos, after, gd⟩).run Tryz.prog u = .ok (.value (.bool b)) u := by
 have e : (m == k) = b := by rw [← hb]; by_cases h : m = k <;> simp [h]
 unfold execOp
 simp only [hx, hy]
 go_simp
theorem law_bfirst_no (H : BlockC) (G : AwkC) (GM : MayC) (GW : WorkC) (GR : MRootC) (a b : Nat) (w : World) (ha : a < 4294967296) (hb : b < 4294967296) (ht : Tables w) {ra : TipR} (hra : ra.p = []) (hfa : firstK a = (ra, false)) {rb : TipR} {ib : Bool} (hfb : firstK b = (rb, ib)) :
  Rz 7 #[.int .u32 (a : Int), .int .u32 (b : Int)] w (.bool true) := by
 unfold Rz
 have HT := hD ht
 have HH := hD H
 have HGW := hD GW
 have HGM := hD GM
 have HGR := hD GR
 have HGG := hD G
 have HA := hD ha
 have HB := hD hb
 have HFA := hD hfa
 have HFB := hD hfb
 have HAW : Hid (Rt w 10 #[] (.bool true)) := fun u hu => bawake_any H G u (ht.below (EnvX.bel hu))
 have E1 : Hid (EnvX w w []) := EnvX.start w
 have HRP := hD hra
 clear hra
 clear ht H G GM GW GR ha hb hfa hfb
 go_enter func7, ntmps7
 go_upto_region 1 with (fail)
 refine rgQ [0,1] [] E1 rfl fun hw => ?_
 refine qc rfl func10 (fun u hu => HAW.out u hu) hw ?_
 refine qo rfl hw ?_
 refine enP fun u3 EX2 => ?_
 go_upto_region 2 with (fail)
 refine rgQ [0] [1,2,3,4,5,6,7] EX2 rfl fun hw => ?_
 refine qo rfl hw ?_
 refine wpG_nil <| (hOp_turn (gd := none) (R := fun x M' => ∃ tq N, x = .tuple #[.agg (tipA tq), .bool false] ∧ M' = N ∧ KeptB w N (IsTip (ra) tq) ∧ ∃ vq, IsTip (ra) tq vq) rfl rfl rfl rfl (fun u hu => OUpon_call (fid := 13) (xs := #[.tmp 13]) (args := #[.int .u32 (a : Int)]) rfl func13 rfl rfl u (tip_turn0 (by have h := HH.out.first a u HA.out (HT.out.below (EnvX.bel hu)); rw [HFA.out] at h; simp only at h; exact h) hu)) ?_)
 rintro _ N6 ⟨u6, _, rfl, rfl, hk6, hv6⟩ he5; intro K' hK'; go_big_quiet_op; go_big_quiet_on
 have HT6 := hD hk6
 have HV6 := hD hv6
 have HK6 : Hid (lenH u6.b.h) := by obtain ⟨v, hv⟩ := HV6.out; exact hv.2.b.h.len
 clear hk6 hv6
 refine phE [2,3,4] [5,6,7] he5 fun hw => ?_
 refine qw 3 hw ?_
 refine wpG_nil <| qn rfl (new_tip _) fun g6 HGg6 he7 => ?_
 change lexH _ _ _ _ _ _ ((g6, oc (tipA noTipM) 37) :: N6)
 refine (sh rfl HGg6 (infoTip _ (tipA_size HK6.out)) (tip_sizes HK6.out) (tipA_one _) ?_)
 intro he8
 refine phE [7] [] he8 fun hw => ?_
 refine qo rfl hw ?_
 refine enP fun u11 EX10 => ?_
 go_upto_region 3 with (fail)
 refine rgQ [0] [1,2,3,4,5,6,7] EX10 rfl fun hw => ?_
 refine qo rfl hw ?_
 refine wpG_nil <| (hOp_turn (gd := none) (R := fun x M' => ∃ tq N, x = .tuple #[.agg (tipA tq), .bool ib] ∧ M' = N ++ ((g6, oc (tipA u6) 37) :: N6) ∧ KeptB w N (IsTip (rb) tq) ∧ ∃ vq, IsTip (rb) tq vq) rfl rfl rfl rfl (fun u hu => OUpon_call (fid := 13) (xs := #[.tmp 18]) (args := #[.int .u32 (b : Int)]) rfl func13 rfl rfl u (tip_turn (by have h := HH.out.first b u HB.out (HT.out.below (EnvX.bel hu)); rw [HFB.out] at h; simp only at h; exact h) hu)) ?_)
 rintro _ _ ⟨u8, N8, rfl, rfl, hk8, hv8⟩ he13; intro K' hK'; go_big_quiet_op; go_big_quiet_on
 have HT8 := hD hk8
 have HV8 := hD hv8
 have HK8 : Hid (lenH u8.b.h) := by obtain ⟨v, hv⟩ := HV8.out; exact hv.2.b.h.len
 clear hk8 hv8
 refine phE [2,3,4] [5,6,7] he13 fun hw => ?_
 refine qw 3 hw ?_
 refine wpG_nil <| qn rfl (new_tip _) fun g8 HGg8 he15 => ?_
 change lexH _ _ _ _ _ _ ((g8, oc (tipA noTipM) 37) :: (N8 ++ ((g6, oc (tipA u6) 37) :: N6)))
 refine (sh rfl HGg8 (infoTip _ (tipA_size HK8.out)) (tip_sizes HK8.out) (tipA_one _) ?_)
 intro he16
 refine phE [7] [] he16 fun hw => ?_
 refine qo rfl hw ?_
 refine enP fun u19 EX18 => ?_
 go_upto_region 4 with (fail)
 refine rgQ [0,1,2,3,4,5] [] EX18 rfl fun hw => ?_
 refine qw 6 hw ?_
 refine enP fun u22 EX21 => ?_
 have HN3 : Hid (u6.n3 = 0) := by
  obtain ⟨v, hv⟩ := HV6.out
  have h1 : u6.p = [] := (congrArg (fun t : TipR => t.p) hv.1).trans HRP.out
  have h2 := hv.2.l3
  rw [h1] at h2
  exact h2.symm
 have HN63 : Hid (u6.n3 < 9223372036854775808) := by have := HN3.out; show _ < _; omega
 go_upto_region 5 with (fail)
 refine rgQ [0,1,2,3,4,5,6,7] [] EX21 rfl fun hw => ?_
 refine qw 3 hw ?_
 refine ql rfl (mT (mR mH)) HK6.out hw ?_
 refine qv rfl (fun u hu => len_op underlying34 HN63.out u rfl) hw ?_
 refine qv (v := .bool true) rfl (fun u hu => eqlI_op u (decide_eq_true (by have := HN3.out; omega)) rfl rfl) hw ?_
 refine qw 2 hw ?_
 refine enP fun u25 EX24 => ?_
 have HBE := hD (EnvX.bel EX24.out)
 go_wp2
 go_ret
 exact ⟨rfl, HBE.out⟩
theorem law_bfirst_one (H : BlockC) (G : AwkC) (GM : MayC) (GW : WorkC) (GR : MRootC) (a b : Nat) (w : World) (ha : a < 4294967296) (hb : b < 4294967296) (ht : Tables w) (hia : isC a = true) {ra : TipR} (hra : ra = tipK a) (hfa : firstK a = (ra, true)) {rb : TipR} (hfb : firstK b = (rb, false)) :
  Rz 7 #[.int .u32 (a : Int), .int .u32 (b : Int)] w (.bool true) := by
 unfold Rz
 have HT := hD ht
 have HH := hD H
 have HGW := hD GW
 have HGM := hD GM
 have HGR := hD GR
 have HGG := hD G
 have HA := hD ha
 have HB := hD hb
 have HFA := hD hfa
 have HFB := hD hfb
 have HAW : Hid (Rt w 10 #[] (.bool true)) := fun u hu => bawake_any H G u (ht.below (EnvX.bel hu))
 have E1 : Hid (EnvX w w []) := EnvX.start w
 have HRA := hD hra
 have HIA := hD hia
 clear hra hia
 clear ht H G GM GW GR ha hb hfa hfb
 go_enter func7, ntmps7
 go_upto_region 1 with (fail)
 refine rgQ [0,1] [] E1 rfl fun hw => ?_
 refine qc rfl func10 (fun u hu => HAW.out u hu) hw ?_
 refine qo rfl hw ?_
 refine enP fun u3 EX2 => ?_
 go_upto_region 2 with (fail)
 refine rgQ [0] [1,2,3,4,5,6,7] EX2 rfl fun hw => ?_
 refine qo rfl hw ?_
 refine wpG_nil <| (hOp_turn (gd := none) (R := fun x M' => ∃ tq N, x = .tuple #[.agg (tipA tq), .bool true] ∧ M' = N ∧ KeptB w N (IsTip (ra) tq) ∧ ∃ vq, IsTip (ra) tq vq) rfl rfl rfl rfl (fun u hu => OUpon_call (fid := 13) (xs := #[.tmp 13]) (args := #[.int .u32 (a : Int)]) rfl func13 rfl rfl u (tip_turn0 (by have h := HH.out.first a u HA.out (HT.out.below (EnvX.bel hu)); rw [HFA.out] at h; simp only at h; exact h) hu)) ?_)
 rintro _ N6 ⟨u6, _, rfl, rfl, hk6, hv6⟩ he5; intro K' hK'; go_big_quiet_op; go_big_quiet_on
 have HT6 := hD hk6
 have HV6 := hD hv6
 have HK6 : Hid (lenH u6.b.h) := by obtain ⟨v, hv⟩ := HV6.out; exact hv.2.b.h.len
 clear hk6 hv6
 refine phE [2,3,4] [5,6,7] he5 fun hw => ?_
 refine qw 3 hw ?_
 refine wpG_nil <| qn rfl (new_tip _) fun g6 HGg6 he7 => ?_
 change lexH _ _ _ _ _ _ ((g6, oc (tipA noTipM) 37) :: N6)
 refine (sh rfl HGg6 (infoTip _ (tipA_size HK6.out)) (tip_sizes HK6.out) (tipA_one _) ?_)
 intro he8
 refine phE [7] [] he8 fun hw => ?_
 refine qo rfl hw ?_
 refine enP fun u11 EX10 => ?_
 go_upto_region 3 with (fail)
 refine rgQ [0] [1,2,3,4,5,6,7] EX10 rfl fun hw => ?_
 refine qo rfl hw ?_
 refine wpG_nil <| (hOp_turn (gd := none) (R := fun x M' => ∃ tq N, x = .tuple #[.agg (tipA tq), .bool false] ∧ M' = N ++ ((g6, oc (tipA u6) 37) :: N6) ∧ KeptB w N (IsTip (rb) tq) ∧ ∃ vq, IsTip (rb) tq vq) rfl rfl rfl rfl (fun u hu => OUpon_call (fid := 13) (xs := #[.tmp 18]) (args := #[.int .u32 (b : Int)]) rfl func13 rfl rfl u (tip_turn (by have h := HH.out.first b u HB.out (HT.out.below (EnvX.bel hu)); rw [HFB.out] at h; simp only at h; exact h) hu)) ?_)
 rintro _ _ ⟨u8, N8, rfl, rfl, hk8, hv8⟩ he13; intro K' hK'; go_big_quiet_op; go_big_quiet_on
 have HT8 := hD hk8
 have HV8 := hD hv8
 have HK8 : Hid (lenH u8.b.h) := by obtain ⟨v, hv⟩ := HV8.out; exact hv.2.b.h.len
 clear hk8 hv8
 refine phE [2,3,4] [5,6,7] he13 fun hw => ?_
 refine qw 3 hw ?_
 refine wpG_nil <| qn rfl (new_tip _) fun g8 HGg8 he15 => ?_
 change lexH _ _ _ _ _ _ ((g8, oc (tipA noTipM) 37) :: (N8 ++ ((g6, oc (tipA u6) 37) :: N6)))
 refine (sh rfl HGg8 (infoTip _ (tipA_size HK8.out)) (tip_sizes HK8.out) (tipA_one _) ?_)
 intro he16
 refine phE [7] [] he16 fun hw => ?_
 refine qo rfl hw ?_
 refine enP fun u19 EX18 => ?_
 go_upto_region 4 with (fail)
 refine rgQ [0,1,2,3,4,5] [] EX18 rfl fun hw => ?_
 refine qw 6 hw ?_
 refine enP fun u22 EX21 => ?_
 have hv6 : u6.r = tipK a := by obtain ⟨v, hv⟩ := HV6.out; rw [hv.1, HRA.out]
 obtain ⟨hm, hl, hp, hc, htx, hhd⟩ := midTip_first a hv6
 have HX6 : Hid (u6.n3 = 1 ∧ u6.n4 = 0 ∧ u6.b.n1 = 0 ∧ u6.b.n2 = 0) := by
  obtain ⟨v, hv⟩ := HV6.out
  have h1 := hv.2.l3
  have h2 := hv.2.l4
  have h3 := hv.2.b.l1
  have h4 := hv.2.b.l2
  rw [hp] at h1
  rw [hc] at h2
  rw [hl] at h3
  rw [htx] at h4
  exact ⟨h1.symm, h2.symm, h3.symm, h4.symm⟩
 have HP6 := hD hp
 obtain ⟨X, hX⟩ : ∃ X, headK a = X := ⟨_, rfl⟩
 have HH6 : Hid (u6.b.h = X) := by show _ = _; rw [hhd, hX]
 have HOX : Hid (okHd X) := by rw [← hX]; exact headK_ok HA.out
 have HMX : Hid (mayH X = true) := by show _ = _; rw [← hX]; exact first_may HIA.out
 have HLF : Hid (rootP u6.p = leafH X) := by show _ = _; rw [hp, hX]; rfl
 have HLO : Hid (len32 (leafH X)) := (idH_id X).1
 have HXE := hD hX
 have HIX : Hid ((idH X).length = 32 ∧ workH X < Big) := ⟨(idH_id X).1, workH_lt X⟩
 clear hv6 hm hl hp hc htx hhd hX
 go_upto_region 6 with (fail)
 refine rgQ [0,1,2] [3,4] EX21 rfl fun hw => ?_
 refine qf rfl hw ?_
 refine ql rfl (mT (mR mH)) HK6.out hw ?_
 refine qc (args := #[.slice u6.A3 u6.n3 u6.c3]) (v := totV (leafH X)) rfl func26 (fun u hu => by have k := ((HT6.out u _ hu (fun y MEM => (mT (mR (mT MEM)))))).2; have h := HGR.out.root u6.p u6.A3 u6.n3 u6.c3 u k.l3 (by have := HX6.out.1; omega) k.b3.1 k.b3.2 k.o3 k.m3 (HT.out.below (EnvX.bel hu)); rw [HLF.out] at h; exact h) hw ?_
 refine wpG_nil <| qn rfl (new_tot _) fun gr HGgr he24 => ?_
 change lexH _ _ _ _ _ _ ((gr, oc (totA zTot) 56) :: ((g8, oc (tipA u8) 37) :: (N8 ++ ((g6, oc (tipA u6) 37) :: N6))))
 refine (sh rfl HGgr (infoTot _ (totA_size HLO.out)) (zTot_size.trans (totA_size HLO.out).symm) (totA_one _) ?_)
 refine fun _ => enL fun u27 EX26 => ?_
 go_upto_region 7 with (fail)
 refine rgK [0,1,2,3,4,5,6,7,8,9,10,11,12,13,14,15,16,17,18,19,20,21,22,23,24,25,26,27,28,29,30,31,32,33,34,35,36,37,38,39,40,41,42,43,44] 0 EX26 rfl fun hw => ?_
 refine qf rfl hw ?_
 refine ql rfl (mT (mT (mR mH))) HK6.out hw ?_
 refine qv (v := .int .i64 (u6.n3 : Int)) rfl (fun u hu => len_op underlying34 (by have := HX6.out.1; omega) u rfl) hw ?_
 refine qv (v := .bool false) rfl (fun u hu => neZ_op u (decide_eq_false (by have := HX6.out.1; omega)) rfl rfl) hw ?_
 refine qw 2 hw ?_
 refine ql rfl (mT (mT (mR mH))) HK6.out hw ?_
 refine qv (v := .int .i64 (u6.n4 : Int)) rfl (fun u hu => len_op underlying35 (by have := HX6.out.2.1; omega) u rfl) hw ?_
 refine qw 2 hw ?_
 refine ql rfl (mT (mT (mR mH))) HK6.out hw ?_
 refine qv (v := .int .i64 (u6.b.n1 : Int)) rfl (fun u hu => len_op underlying30 (by have := HX6.out.2.2.1; omega) u rfl) hw ?_
 refine qv (v := .int .i64 0) rfl (fun u hu => addZ_op u (by rw [HX6.out.2.1, HX6.out.2.2.1]; decide) rfl rfl) hw ?_
 refine qw 2 hw ?_
 refine ql rfl (mT (mT (mR mH))) HK6.out hw ?_
 refine qv (v := .int .i64 (u6.b.n2 : Int)) rfl (fun u hu => len_op underlying31 (by have := HX6.out.2.2.2; omega) u rfl) hw ?_
 refine qv (v := .int .i64 0) rfl (fun u hu => addZ_op u (by rw [HX6.out.2.2.2]; decide) rfl rfl) hw ?_
 refine qv (v := .bool false) rfl (fun u hu => neZ_op u (decide_eq_false (by omega)) rfl rfl) hw ?_
 refine qw 4 hw ?_
 refine qv (v := hdV X) rfl (fun u hu => by rw [← HH6.out]; exact load_any_op u (loads_hd HK6.out (box_tip_hd hu (mT (mT (mR mH))) HK6.out)).1 rfl) hw ?_
 refine qc (args := #[hdV X]) (v := .bool true) rfl func31 (fun u hu => by have h := HGM.out.may X u HOX.out (HT.out.below (EnvX.bel hu)); rw [HMX.out] at h; exact h) hw ?_
 refine qw 4 hw ?_
 refine qv rfl (fun u hu => load_any_op u (box_totH (t := leafH X) hu mH HLO.out) rfl) hw ?_
 refine qw 2 hw ?_
 refine qv (v := hdV X) rfl (fun u hu => by rw [← HH6.out]; exact load_any_op u (loads_hd HK6.out (box_tip_hd hu (mT (mT (mR mH))) HK6.out)).1 rfl) hw ?_
 refine qc (args := #[hdV X]) (v := idv (idH X)) rfl func28 (fun u hu => HGG.out.id X u HOX.out (HT.out.below (EnvX.bel hu))) hw ?_
 refine qv rfl (fun u hu => neqb_op HIX.out.1 HIX.out.1 (neL_f rfl) u rfl rfl) hw ?_
 refine qw 3 hw ?_
 refine qv rfl (fun u hu => load_any_op u (box_totW (t := leafH X) hu mH HLO.out) rfl) hw ?_
 refine qw 2 hw ?_
 refine qv (v := hdV X) rfl (fun u hu => by rw [← HH6.out]; exact load_any_op u (loads_hd HK6.out (box_tip_hd hu (mT (mT (mR mH))) HK6.out)).1 rfl) hw ?_
 refine qc (args := #[hdV X]) (v := .agg (wcs (workH X))) rfl func30 (fun u hu => HGW.out.work X u HOX.out (HT.out.below (EnvX.bel hu))) hw ?_
 refine qv rfl (fun u hu => neqWk_op HIX.out.2 HIX.out.2 (neN_f rfl) u rfl rfl) hw ?_
 refine qo rfl hw ?_
 refine eH fun u30 EX29 => ?_
 go_upto_region 9 with (fail)
 refine rgQ [0,1,2,3,4,5,6,7,8,9,10,11,12,13,14,15] [] EX29 rfl fun hw => ?_
 refine qw 16 hw ?_
 refine enP fun u33 EX32 => ?_
 have HBE := hD (EnvX.bel EX32.out)
 go_wp2
 go_ret
 exact ⟨rfl, HBE.out⟩
theorem law_bfirst_two (H : BlockC) (G : AwkC) (GM : MayC) (GW : WorkC) (GR : MRootC) (a b : Nat) (w : World) (ha : a < 4294967296) (hb : b < 4294967296) (ht : Tables w) (hia : isC a = true) {ra : TipR} (hra : ra = tipK a) (hfa : firstK a = (ra, true)) {rb : TipR} (hfb : firstK b = (rb, true)) (hrb : rb = tipK b) :
  Rz 7 #[.int .u32 (a : Int), .int .u32 (b : Int)] w (.bool true) := by
 unfold Rz
 have HT := hD ht
 have HH := hD H
 have HGW := hD GW
 have HGM := hD GM
 have HGR := hD GR
 have HGG := hD G
 have HA := hD ha
 have HB := hD hb
 have HFA := hD hfa
 have HFB := hD hfb
 have HAW : Hid (Rt w 10 #[] (.bool true)) := fun u hu => bawake_any H G u (ht.below (EnvX.bel hu))
 have E1 : Hid (EnvX w w []) := EnvX.start w
 have HRA := hD hra
 have HIA := hD hia
 have HRB := hD hrb
 clear hra hia hrb
 clear ht H G GM GW GR ha hb hfa hfb
 go_enter func7, ntmps7
 go_upto_region 1 with (fail)
 refine rgQ [0,1] [] E1 rfl fun hw => ?_
 refine qc rfl func10 (fun u hu => HAW.out u hu) hw ?_
 refine qo rfl hw ?_
 refine enP fun u3 EX2 => ?_
 go_upto_region 2 with (fail)
 refine rgQ [0] [1,2,3,4,5,6,7] EX2 rfl fun hw => ?_
 refine qo rfl hw ?_
 refine wpG_nil <| (hOp_turn (gd := none) (R := fun x M' => ∃ tq N, x = .tuple #[.agg (tipA tq), .bool true] ∧ M' = N ∧ KeptB w N (IsTip (ra) tq) ∧ ∃ vq, IsTip (ra) tq vq) rfl rfl rfl rfl (fun u hu => OUpon_call (fid := 13) (xs := #[.tmp 13]) (args := #[.int .u32 (a : Int)]) rfl func13 rfl rfl u (tip_turn0 (by have h := HH.out.first a u HA.out (HT.out.below (EnvX.bel hu)); rw [HFA.out] at h; simp only at h; exact h) hu)) ?_)
 rintro _ N6 ⟨u6, _, rfl, rfl, hk6, hv6⟩ he5; intro K' hK'; go_big_quiet_op; go_big_quiet_on
 have HT6 := hD hk6
 have HV6 := hD hv6
 have HK6 : Hid (lenH u6.b.h) := by obtain ⟨v, hv⟩ := HV6.out; exact hv.2.b.h.len
 clear hk6 hv6
 refine phE [2,3,4] [5,6,7] he5 fun hw => ?_
 refine qw 3 hw ?_
 refine wpG_nil <| qn rfl (new_tip _) fun g6 HGg6 he7 => ?_
 change lexH _ _ _ _ _ _ ((g6, oc (tipA noTipM) 37) :: N6)
 refine (sh rfl HGg6 (infoTip _ (tipA_size HK6.out)) (tip_sizes HK6.out) (tipA_one _) ?_)
 intro he8
 refine phE [7] [] he8 fun hw => ?_
 refine qo rfl hw ?_
 refine enP fun u11 EX10 => ?_
 go_upto_region 3 with (fail)
 refine rgQ [0] [1,2,3,4,5,6,7] EX10 rfl fun hw => ?_
 refine qo rfl hw ?_
 refine wpG_nil <| (hOp_turn (gd := none) (R := fun x M' => ∃ tq N, x = .tuple #[.agg (tipA tq), .bool true] ∧ M' = N ++ ((g6, oc (tipA u6) 37) :: N6) ∧ KeptB w N (IsTip (rb) tq) ∧ ∃ vq, IsTip (rb) tq vq) rfl rfl rfl rfl (fun u hu => OUpon_call (fid := 13) (xs := #[.tmp 18]) (args := #[.int .u32 (b : Int)]) rfl func13 rfl rfl u (tip_turn (by have h := HH.out.first b u HB.out (HT.out.below (EnvX.bel hu)); rw [HFB.out] at h; simp only at h; exact h) hu)) ?_)
 rintro _ _ ⟨u8, N8, rfl, rfl, hk8, hv8⟩ he13; intro K' hK'; go_big_quiet_op; go_big_quiet_on
 have HT8 := hD hk8
 have HV8 := hD hv8
 have HK8 : Hid (lenH u8.b.h) := by obtain ⟨v, hv⟩ := HV8.out; exact hv.2.b.h.len
 clear hk8 hv8
 refine phE [2,3,4] [5,6,7] he13 fun hw => ?_
 refine qw 3 hw ?_
 refine wpG_nil <| qn rfl (new_tip _) fun g8 HGg8 he15 => ?_
 change lexH _ _ _ _ _ _ ((g8, oc (tipA noTipM) 37) :: (N8 ++ ((g6, oc (tipA u6) 37) :: N6)))
 refine (sh rfl HGg8 (infoTip _ (tipA_size HK8.out)) (tip_sizes HK8.out) (tipA_one _) ?_)
 intro he16
 refine phE [7] [] he16 fun hw => ?_
 refine qo rfl hw ?_
 refine enP fun u19 EX18 => ?_
 go_upto_region 4 with (fail)
 refine rgQ [0,1,2,3,4,5] [] EX18 rfl fun hw => ?_
 refine qw 6 hw ?_
 refine enP fun u22 EX21 => ?_
 have hv6 : u6.r = tipK a := by obtain ⟨v, hv⟩ := HV6.out; rw [hv.1, HRA.out]
 obtain ⟨hm, hl, hp, hc, htx, hhd⟩ := midTip_first a hv6
 have HX6 : Hid (u6.n3 = 1 ∧ u6.n4 = 0 ∧ u6.b.n1 = 0 ∧ u6.b.n2 = 0) := by
  obtain ⟨v, hv⟩ := HV6.out
  have h1 := hv.2.l3
  have h2 := hv.2.l4
  have h3 := hv.2.b.l1
  have h4 := hv.2.b.l2
  rw [hp] at h1
  rw [hc] at h2
  rw [hl] at h3
  rw [htx] at h4
  exact ⟨h1.symm, h2.symm, h3.symm, h4.symm⟩
 have HP6 := hD hp
 obtain ⟨X, hX⟩ : ∃ X, headK a = X := ⟨_, rfl⟩
 have HH6 : Hid (u6.b.h = X) := by show _ = _; rw [hhd, hX]
 have HOX : Hid (okHd X) := by rw [← hX]; exact headK_ok HA.out
 have HMX : Hid (mayH X = true) := by show _ = _; rw [← hX]; exact first_may HIA.out
 have HLF : Hid (rootP u6.p = leafH X) := by show _ = _; rw [hp, hX]; rfl
 have HLO : Hid (len32 (leafH X)) := (idH_id X).1
 have HXE := hD hX
 have HIX : Hid ((idH X).length = 32 ∧ workH X < Big) := ⟨(idH_id X).1, workH_lt X⟩
 clear hv6 hm hl hp hc htx hhd hX
 go_upto_region 6 with (fail)
 refine rgQ [0,1,2] [3,4] EX21 rfl fun hw => ?_
 refine qf rfl hw ?_
 refine ql rfl (mT (mR mH)) HK6.out hw ?_
 refine qc (args := #[.slice u6.A3 u6.n3 u6.c3]) (v := totV (leafH X)) rfl func26 (fun u hu => by have k := ((HT6.out u _ hu (fun y MEM => (mT (mR (mT MEM)))))).2; have h := HGR.out.root u6.p u6.A3 u6.n3 u6.c3 u k.l3 (by have := HX6.out.1; omega) k.b3.1 k.b3.2 k.o3 k.m3 (HT.out.below (EnvX.bel hu)); rw [HLF.out] at h; exact h) hw ?_
 refine wpG_nil <| qn rfl (new_tot _) fun gr HGgr he24 => ?_
 change lexH _ _ _ _ _ _ ((gr, oc (totA zTot) 56) :: ((g8, oc (tipA u8) 37) :: (N8 ++ ((g6, oc (tipA u6) 37) :: N6))))
 refine (sh rfl HGgr (infoTot _ (totA_size HLO.out)) (zTot_size.trans (totA_size HLO.out).symm) (totA_one _) ?_)
 refine fun _ => enL fun u27 EX26 => ?_
 go_upto_region 7 with (fail)
 refine rgK [0,1,2,3,4,5,6,7,8,9,10,11,12,13,14,15,16,17,18,19,20,21,22,23,24,25,26,27,28,29,30,31,32,33,34,35,36,37,38,39,40,41,42,43,44] 0 EX26 rfl fun hw => ?_
 refine qf rfl hw ?_
 refine ql rfl (mT (mT (mR mH))) HK6.out hw ?_
 refine qv (v := .int .i64 (u6.n3 : Int)) rfl (fun u hu => len_op underlying34 (by have := HX6.out.1; omega) u rfl) hw ?_
 refine qv (v := .bool false) rfl (fun u hu => neZ_op u (decide_eq_false (by have := HX6.out.1; omega)) rfl rfl) hw ?_
 refine qw 2 hw ?_
 refine ql rfl (mT (mT (mR mH))) HK6.out hw ?_
 refine qv (v := .int .i64 (u6.n4 : Int)) rfl (fun u hu => len_op underlying35 (by have := HX6.out.2.1; omega) u rfl) hw ?_
 refine qw 2 hw ?_
 refine ql rfl (mT (mT (mR mH))) HK6.out hw ?_
 refine qv (v := .int .i64 (u6.b.n1 : Int)) rfl (fun u hu => len_op underlying30 (by have := HX6.out.2.2.1; omega) u rfl) hw ?_
 refine qv (v := .int .i64 0) rfl (fun u hu => addZ_op u (by rw [HX6.out.2.1, HX6.out.2.2.1]; decide) rfl rfl) hw ?_
 refine qw 2 hw ?_
 refine ql rfl (mT (mT (mR mH))) HK6.out hw ?_
 refine qv (v := .int .i64 (u6.b.n2 : Int)) rfl (fun u hu => len_op underlying31 (by have := HX6.out.2.2.2; omega) u rfl) hw ?_
 refine qv (v := .int .i64 0) rfl (fun u hu => addZ_op u (by rw [HX6.out.2.2.2]; decide) rfl rfl) hw ?_
 refine qv (v := .bool false) rfl (fun u hu => neZ_op u (decide_eq_false (by omega)) rfl rfl) hw ?_
 refine qw 4 hw ?_
 refine qv (v := hdV X) rfl (fun u hu => by rw [← HH6.out]; exact load_any_op u (loads_hd HK6.out (box_tip_hd hu (mT (mT (mR mH))) HK6.out)).1 rfl) hw ?_
 refine qc (args := #[hdV X]) (v := .bool true) rfl func31 (fun u hu => by have h := HGM.out.may X u HOX.out (HT.out.below (EnvX.bel hu)); rw [HMX.out] at h; exact h) hw ?_
 refine qw 4 hw ?_
 refine qv rfl (fun u hu => load_any_op u (box_totH (t := leafH X) hu mH HLO.out) rfl) hw ?_
 refine qw 2 hw ?_
 refine qv (v := hdV X) rfl (fun u hu => by rw [← HH6.out]; exact load_any_op u (loads_hd HK6.out (box_tip_hd hu (mT (mT (mR mH))) HK6.out)).1 rfl) hw ?_
 refine qc (args := #[hdV X]) (v := idv (idH X)) rfl func28 (fun u hu => HGG.out.id X u HOX.out (HT.out.below (EnvX.bel hu))) hw ?_
 refine qv rfl (fun u hu => neqb_op HIX.out.1 HIX.out.1 (neL_f rfl) u rfl rfl) hw ?_
 refine qw 3 hw ?_
 refine qv rfl (fun u hu => load_any_op u (box_totW (t := leafH X) hu mH HLO.out) rfl) hw ?_
 refine qw 2 hw ?_
 refine qv (v := hdV X) rfl (fun u hu => by rw [← HH6.out]; exact load_any_op u (loads_hd HK6.out (box_tip_hd hu (mT (mT (mR mH))) HK6.out)).1 rfl) hw ?_
 refine qc (args := #[hdV X]) (v := .agg (wcs (workH X))) rfl func30 (fun u hu => HGW.out.work X u HOX.out (HT.out.below (EnvX.bel hu))) hw ?_
 refine qv rfl (fun u hu => neqWk_op HIX.out.2 HIX.out.2 (neN_f rfl) u rfl rfl) hw ?_
 refine qo rfl hw ?_
 refine eH fun u30 EX29 => ?_
 have hv8 : u8.b.h = headK b := by obtain ⟨v, hv⟩ := HV8.out; exact congrArg (fun t : TipR => t.b.h) (hv.1.trans HRB.out)
 obtain ⟨Y, hY⟩ : ∃ Y, headK b = Y := ⟨_, rfl⟩
 have HH8 : Hid (u8.b.h = Y) := by show _ = _; rw [hv8, hY]
 have HOY : Hid (okHd Y) := by rw [← hY]; exact headK_ok HB.out
 obtain ⟨bq, hbq⟩ : ∃ bq, eqH X Y = bq := ⟨_, rfl⟩
 have HBQ := hD hbq
 have HAB : Hid (decide ((a : Int) = (b : Int)) = bq) := by
  show _ = _
  rw [← hbq, ← HXE.out, ← hY]
  unfold eqH
  rw [decide_eq_decide]
  exact ⟨fun h => by rw [show a = b by omega], fun h => by have := (first_head a b).1 h; omega⟩
 clear hv8 hY hbq
 go_upto_region 9 with (fail)
 refine rgQ [0,1,2,3,4,5,6,7,8,9,10,11,12,13,14,15] [] EX29 rfl fun hw => ?_
 refine qw 5 hw ?_
 refine qv (v := hdV X) rfl (fun u hu => by rw [← HH6.out]; exact load_any_op u (loads_hd HK6.out (box_tip_hd hu (mT (mT (mR mH))) HK6.out)).1 rfl) hw ?_
 refine qw 2 hw ?_
 refine qv (v := hdV Y) rfl (fun u hu => by rw [← HH8.out]; exact load_any_op u (loads_hd HK8.out (box_tip_hd hu (mT mH) HK8.out)).1 rfl) hw ?_
 refine qv rfl (fun u hu => eqlHd_op HOX.out HOY.out HBQ.out u rfl rfl) hw ?_
 refine qw 2 hw ?_
 refine qv (v := .bool bq) rfl (fun u hu => eqlU32k_opF u HAB.out rfl rfl) hw ?_
 refine qv (v := .bool true) rfl (fun u hu => eqlBp_op u (by simp) rfl rfl) hw ?_
 refine qw 2 hw ?_
 refine enP fun u33 EX32 => ?_
 have HBE := hD (EnvX.bel EX32.out)
 go_wp2
 go_ret
 exact ⟨rfl, HBE.out⟩
theorem law_bfirst (H : BlockC) (G : AwkC) (GM : MayC) (GW : WorkC) (GR : MRootC) (a b : Nat) (w : World) (ha : a < 4294967296) (hb : b < 4294967296) (ht : Tables w) :
  Rz 7 #[.int .u32 (a : Int), .int .u32 (b : Int)] w (.bool true) := by
 unfold Rz
 have fy : ∀ c, isC c = true → firstK c = (tipK c, true) := fun c k => by unfold firstK; rw [if_pos k]
 have fn : ∀ c, isC c = false → firstK c = (noTip, false) := fun c k => by unfold firstK; rw [if_neg (by rw [k]; decide)]
 cases ka : isC a with
 | false => exact law_bfirst_no H G GM GW GR a b w ha hb ht rfl (fn a ka) (rb := (firstK b).1) (ib := (firstK b).2) rfl
 | true =>
  cases kb : isC b with
  | false => exact law_bfirst_one H G GM GW GR a b w ha hb ht ka rfl (fy a ka) (fn b kb)
  | true => exact law_bfirst_two H G GM GW GR a b w ha hb ht ka rfl (fy a ka) (fy b kb) rfl
end Go.Proofs.YtpanpohdnbgdpaaGreatDoor
namespace Go.Proofs.YtpanpohdnbgdpaaGreatDoor.blockFirst
set_option maxRecDepth 8000
open Go.ChangeShapes Go.WideShapes Go.ChangeAt Go.RowKit
theorem contract (H : Type) (enc : TypeId × Value → H) (W : World) (base : Nat) (args : Array Value) (ds gs : List (DataW H)) (before : List MemPlace)
  (hval : ∀ (j : Nat) t v, Tryz.f7.params[j]? = some t → args[j]? = some v → Value.okWide Tryz.prog W .any base t v)
  (hW : DataW.Whole enc Tryz.prog Tryz.f7.params.toList Rows.blockFirstSpec.vars false W args.toList ds gs before) (hL : laidMetH Tryz.prog Rows.blockFirstRow.laid W) :
  Calls Tryz.prog 7 args W fun e W' => ∃ v, e = .returned v ∧ Rows.blockFirstSpec.post enc Tryz.prog Tryz.f7 false true false false W args v W' := by
 have hW' := hW
 obtain ⟨p, q, hA0, hV, rfl, hfz, hnd⟩ := hW
 have hA : DataW.TrodAll enc Tryz.prog W 0 (fun _ => true) true Tryz.f7.params.toList args.toList ds p := hA0
 rw [Tryz.params7] at hA hval
 obtain ⟨v0, vs0, d0, ds0, p0, q0, hargs, rfl, rfl, h0, r0⟩ := trodAll_cons hA
 obtain ⟨v1, vs1, d1, ds1, p1, q1, rfl, rfl, rfl, h1, r1⟩ := trodAll_cons r0
 obtain ⟨rfl, rfl, rfl⟩ := trodAll_nil r1
 obtain rfl : args = #[v0, v1] := by cases args; simp_all
 obtain ⟨rfl, rfl⟩ := trodVars_none hV
 obtain ⟨x0, rfl, rfl, rfl, wx0⟩ := open_int underlying27 (hval 0 27 v0 rfl rfl) h0
 obtain ⟨y0, rfl⟩ : ∃ n : Nat, x0 = (n : Int) := Int.eq_ofNat_of_zero_le (bounds_u32 wx0).1
 have b0 : y0 < 4294967296 := by have := (bounds_u32 wx0).2; omega
 obtain ⟨x1, rfl, rfl, rfl, wx1⟩ := open_int underlying27 (hval 1 27 v1 rfl rfl) h1
 obtain ⟨y1, rfl⟩ : ∃ n : Nat, x1 = (n : Int) := Int.eq_ofNat_of_zero_le (bounds_u32 wx1).1
 have b1 : y1 < 4294967296 := by have := (bounds_u32 wx1).2; omega
 clear hA0
 refine (law_bfirst blockC awkC mayC workC mrootC y0 y1 W b0 b1 (tables_of_laid hL)).mono fun e W' ⟨he, bel⟩ => ?_
 subst he
 exact ⟨_, rfl, _, _, _, [], _, [], hW', trodAll_mk1 (shut_bool underlying4 _), (trodAll_cons_mk (shut_int underlying27 wx0) (trodAll_cons_mk (shut_int underlying27 wx1) trodAll_mk0)), rfl, bel.frame _, fun h => by cases h⟩
def start : Array Value := #[.int .u32 0, .int .u32 0]
theorem reads (os : Os) {H : Type} (enc : TypeId × Value → H) : ∃ places, DataW.whole enc Tryz.prog ((laidWorld os).forCall (fun _ _ => 0) ⟨#[], start, []⟩).memory Tryz.f7.params.toList Rows.blockFirstSpec.vars false start.toList 8 = some ([.lit (.int .u32 0), .lit (.int .u32 0)], [], places) :=
 ⟨[], by kernel_rfl⟩
theorem lifted (os : Os) (started : os.Started) (H : Type) (enc : TypeId × Value → H) (F : Stop.Interp) :
  ReturnsInHanded {} Tryz.checked os 7 .any ((OpenSpec.ofChange Rows.blockFirstSpec).preRow enc Tryz.prog Tryz.f7 Rows.blockFirstRow.domain false Rows.blockFirstRow.laid) (((OpenSpec.ofChange Rows.blockFirstSpec).at F).post enc Tryz.prog Tryz.f7 false true false false) := by
 obtain ⟨places, hx⟩ := reads os enc
 refine returnsInHanded_of_row (C := Tryz.checked) (s := OpenSpec.ofChange Rows.blockFirstSpec) own started (by kernel_rfl) func7
  (witness_row_at (enc := enc) (C := Tryz.checked) false (laidWorld os) start rfl (by kernel_rfl) (by kernel_rfl) (by kernel_rfl)
   (OpenSpec.preRow_of_cond 8 hx (by kernel_rfl) (fun k hk => by cases hk) (by kernel_rfl) (laidMet_of_run' 8 (by kernel_rfl) (by kernel_rfl)))) ?_
 intro W base args ds gs before hval hW _ _ _ hL _ _
 exact contract H enc W base args ds gs before hval hW hL
theorem said : Rows.BlockFirstSaid :=
 OpenClaim.holds_of_cond 7 Tryz.f7 rfl rfl rfl rfl rfl rfl rfl ⟨rfl, rfl, rfl, rfl, rfl⟩ rfl rfl rfl rfl rfl (by kernel_rfl) func7 (by kernel_rfl)
  (of_decide_eq_true (by kernel_rfl)) (by unfold Func.isWrapper; first | (rw [if_pos (by decide +kernel)]; kernel_rfl) | (rw [if_neg (by decide +kernel)]; exact ⟨rfl, rfl⟩))
  (fun os started H enc _ F => by rw [OpenClaim.pre_eq_preRow]; exact lifted os started H enc F)
theorem plain (f : FuncId) (fn : Func) (hf : Tryz.pinned.checked.prog.funcNamed "stepladder/stepladderlaw11.BlockFirst" = some f) (hfn : Tryz.pinned.checked.prog.funcs[f]? = some fn) :
  false = Tryz.pinned.checked.prog.looks [] ∧ ∀ (j : Nat) t, fn.params[j]? = some t → Tryz.pinned.checked.prog.wantsStandIn t = false := by
 obtain rfl : f = 7 := Option.some.inj ((show Tryz.prog.funcNamed "stepladder/stepladderlaw11.BlockFirst" = some 7 by kernel_rfl).symm.trans hf) |>.symm
 obtain rfl : fn = Tryz.f7 := (Option.some.inj (func7.symm.trans hfn)).symm
 refine ⟨by kernel_rfl, fun j t ht => ?_⟩
 rw [Tryz.params7] at ht
 obtain rfl : t = 27 := by simpa using Array.mem_of_getElem? ht
 exact (show Tryz.prog.wantsStandIn 27 = false by kernel_rfl)
theorem card : Rows.BlockFirstCardSaid :=
 Claim7.holds_tied_plain_at .later [] _ _ _ _ said (fun _ h => by cases h) (by kernel_rfl) (fun _ h => by cases h) blockFirst_row_tie rfl ⟨rfl, rfl⟩ (by kernel_rfl) rfl plain (by kernel_rfl)
end Go.Proofs.YtpanpohdnbgdpaaGreatDoor.blockFirst
