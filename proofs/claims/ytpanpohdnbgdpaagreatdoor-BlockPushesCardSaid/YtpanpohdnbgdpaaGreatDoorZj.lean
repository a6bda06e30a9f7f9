/- Part of a proof. -/
import Derived.Test.YtpanpohdnbgdpaaGreatDoorZi
open Go.Proofs.Tryz
namespace Go.Proofs.YtpanpohdnbgdpaaGreatDoor
set_option maxRecDepth 20000
set_option maxHeartbeats 8000000
set_option linter.unusedVariables false
set_option linter.unusedSimpArgs false
open Go.RowKit
theorem vbfirst_no (bits : Nat) (w : World) (hb : bits < 4294967296) (ht : Tables w) (k : isC bits = false) :
  Calls Tryz.prog 13 #[.int .u32 (bits : Int)] w fun e w' => (∃ t : TipM, e = .returned (.tuple #[tipV t, .bool (firstK bits).2]) ∧ IsTip (firstK bits).1 t w') ∧ Below w.heap.size w w' := by
 have HTG : Hid (Rt w 33 #[.int .u32 (bits : Int)] (.tuple #[.agg (wcs (tv bits)), .bool (isC bits)])) := fun u hu => target_any bits u hb
 have HF : Hid (firstK bits = (noTip, false)) := by show _ = _; unfold firstK; rw [if_neg (by rw [k]; decide)]
 have HNL : Hid (lenH noTipM.b.h) := len_no
 rw [k] at HTG
 have E1 : Hid (EnvX w (w.alloc (.cells (tipA noTipM) 37)) [(w.heap.size, oc (tipA noTipM) 37)]) := (EnvX.start w).new _
 clear k hb ht
 go_enter func13, ntmps13
 go_upto_region 1 with (fail)
 rw [← zero_tipA]
 generalize w.alloc (.cells (tipA noTipM) 37) = W at *
 refine rgQ [0,1,2,3,4] [5,6,7] E1 rfl fun hw => ?_
 refine qo rfl hw ?_
 refine qc rfl func33 (fun u hu => HTG.out u (nl hu)) hw ?_
 refine qw 3 hw ?_
 refine wpG_nil <| qn rfl (new_wide _) fun gt HGt he2 => ?_
 change lexH _ _ _ _ _ _ [(gt, oc (wcs 0) 26), (w.heap.size, oc (tipA noTipM) 37)]
 refine (sh rfl HGt (wc_info _) ((wc_size _).trans (wc_size _).symm) (wc_one _) ?_)
 intro he3
 refine phE [7] [] he3 fun hw => ?_
 refine qo rfl hw ?_
 refine enP fun u6 EX5 => ?_
 go_upto_region 2 with (fail)
 refine rgQ [0,1] [] EX5 rfl fun hw => ?_
 refine qw 2 hw ?_
 refine enP fun u9 EX8 => ?_
 go_upto_region 3 with (fail)
 refine rgQ [0] [1,2] EX8 rfl fun hw => ?_
 refine qv (v := .agg (tipA noTipM)) rfl (fun u hu => buildA_op u built_tip0) hw ?_
 refine wpG_nil <| (so rfl (Nat.le_refl _) (mT mH) (infoTip _ (tipA_size HNL.out)) (tip_sizes HNL.out) (tipA_one _) ?_)
 intro he11
 refine phE [2] [] he11 fun hw => ?_
 refine qo rfl hw ?_
 refine enP fun u14 EX13 => ?_
 have Q0 := hD (EnvX.box EX13.out _ _ mH)
 have HBEL := hD EX13.out.bel
 clear EX13
 go_wp2_with ((with_reducible refine bodyPost_ret (v := .tuple #[.agg (tipA noTipM), .bool false]) ?_ ?_ ?_); (exact results_row_slot (p := 2) (q := 3) (ty := 37) results13 _ _ (w.heap.size) 37 (tipA noTipM) (0, 0) _ rfl _ rfl Q0.out underlying37 rfl (infoTip _ (tipA_size HNL.out))); (rfl))
 exact ⟨⟨noTipM, by rw [HF.out] <;> first | rfl | exact ⟨rfl, rfl⟩, by rw [HF.out]; exact ⟨rfl, TipOk.no _⟩⟩, HBEL.out⟩
theorem vbfirst_yes (bits : Nat) (w : World) (hb : bits < 4294967296) (ht : Tables w) (k : isC bits = true) :
  Calls Tryz.prog 13 #[.int .u32 (bits : Int)] w fun e w' => (∃ t : TipM, e = .returned (.tuple #[tipV t, .bool (firstK bits).2]) ∧ IsTip (firstK bits).1 t w') ∧ Below w.heap.size w w' := by
 have HTG : Hid (Rt w 33 #[.int .u32 (bits : Int)] (.tuple #[.agg (wcs (tv bits)), .bool (isC bits)])) := fun u hu => target_any bits u hb
 have HF : Hid (firstK bits = (tipK bits, true)) := by show _ = _; unfold firstK; rw [if_pos k]
 rw [k] at HTG
 have HTP : Hid (∀ (A1 : Option Addr) (c1 : Nat) (N1 : Boxes) (u : World), FreshR 56 37 (appT [] (leafH (headK bits))).length ((appT [] (leafH (headK bits))).map totC).flatten (.slice A1 (appT [] (leafH (headK bits))).length c1) N1 → (appT [] (leafH (headK bits))).length ≤ c1 → c1 ≤ maxLen → (∀ y ∈ N1, u.heap[y.1]? = some y.2) → IsTip (tipK bits) ⟨⟨headK bits, [], none, 0, 0, [], none, 0, 0⟩, appT [] (leafH (headK bits)), A1, (appT [] (leafH (headK bits))).length, c1, [], none, 0, 0⟩ u) := fun A1 c1 N1 u h1 h2 h3 h4 => tip_first hb h1 h2 h3 h4
 have hok := headK_ok hb
 obtain ⟨X, hX⟩ : ∃ X, rootT [] = X := ⟨_, rfl⟩
 obtain ⟨Z, hZ⟩ : ∃ Z, noTot.h = Z := ⟨_, rfl⟩
 have HX : Hid (X.length = 32) := by show _ = _; rw [← hX]; exact (root_id (l := []) (fun x h => by cases h)).1
 have HZ : Hid (len32 noTot ∧ Z.length = 32) := ⟨noTot_ok.len, by rw [← hZ]; exact noTot_ok.len⟩
 have hHE : headK bits = ⟨0, z32, X, X, Z, 0, bits, 0⟩ := by unfold headK; rw [hX, hZ]
 have HZE := hD hZ
 have HLR : Hid (Rt w 34 #[.slice none 0 0] (idv X)) := fun u hu => by have h := vlink_root [] none 0 0 u rfl (by omega) (by omega) (Nat.zero_le _) (fun x h => by cases h) (IdsIn.nil _ _ _) (ht.below (EnvX.bel hu)); rw [show leavesL [] = [] from rfl, hX] at h; exact h
 have HCR : Hid (Rt w 35 #[.slice none 0 0] (idv X)) := fun u hu => by have h := prootX_any [] none 0 0 u rfl (by omega) (by omega) (Nat.zero_le _) ⟨fun h => absurd h (Nat.lt_irrefl 0), fun t h => by cases h⟩ (ht.below (EnvX.bel hu)); rw [show idsX (rsT []) = [] from rfl, hX] at h; exact h
 have HRT : Hid (Rt w 26 #[.slice none 0 0] (totV noTot)) := fun u hu => by have h := mroot_any [] none 0 0 u rfl (by omega) (fun x h => by cases h) (TotsIn.nil _ _ _) (ht.below (EnvX.bel hu)); rw [show rootP [] = noTot from rfl] at h; exact h
 obtain ⟨H, hH⟩ : ∃ H, headK bits = H := ⟨_, rfl⟩
 rw [hH] at HTP hok hHE
 have HOK := hD hok
 have HHE := hD hHE
 have HLH : Hid (lenH H) := hok.len
 have HAP : Hid (∀ u, EnvX w u [] → Calls Tryz.prog 36 #[.slice none 0 0, hdV H] u fun e w' => (∃ v, e = .returned v ∧ w'.ownsRow u.heap.size 56 37 v (appT [] (leafH H)).length (((appT [] (leafH H)).map totC).flatten)) ∧ Below u.heap.size u w') := fun u hu => vwithLeaf [] none 0 0 H u rfl (by omega) (fun _ h => by cases h) (TotsIn.nil _ _ _) HOK.out (ht.below (EnvX.bel hu))
 have E1 : Hid (EnvX w (w.alloc (.cells (tipA noTipM) 37)) [(w.heap.size, oc (tipA noTipM) 37)]) := (EnvX.start w).new _
 clear k hb hok hX hZ hHE hH ht
 go_enter func13, ntmps13
 go_upto_region 1 with (fail)
 rw [← zero_tipA]
 generalize w.alloc (.cells (tipA noTipM) 37) = W at *
 refine rgQ [0,1,2,3,4] [5,6,7] E1 rfl fun hw => ?_
 refine qo rfl hw ?_
 refine qc rfl func33 (fun u hu => HTG.out u (nl hu)) hw ?_
 refine qw 3 hw ?_
 refine wpG_nil <| qn rfl (new_wide _) fun gt HGt he2 => ?_
 change lexH _ _ _ _ _ _ [(gt, oc (wcs 0) 26), (w.heap.size, oc (tipA noTipM) 37)]
 refine (sh rfl HGt (wc_info _) ((wc_size _).trans (wc_size _).symm) (wc_one _) ?_)
 intro he3
 refine phE [7] [] he3 fun hw => ?_
 refine qo rfl hw ?_
 refine enP fun u6 EX5 => ?_
 go_upto_region 2 with (fail)
 refine rgQ [0,1] [] EX5 rfl fun hw => ?_
 refine qw 2 hw ?_
 refine enP fun u9 EX8 => ?_
 go_upto_region 4 with (fail)
 refine rgQ [0,1,2,3,4,5] [6,7] EX8 rfl fun hw => ?_
 refine qc rfl func34 (fun u hu => HLR.out u (nl hu)) hw ?_
 refine qc rfl func35 (fun u hu => HCR.out u (nl hu)) hw ?_
 refine qc rfl func26 (fun u hu => HRT.out u (nl hu)) hw ?_
 refine qv (v := idv Z) rfl (fun u hu => by rw [← HZE.out]; exact fieldH_op HZ.out.1 u rfl) hw ?_
 refine qo rfl hw ?_
 refine qv (v := .agg (hdA H)) rfl (fun u hu => buildA_op u (by rw [HHE.out]; exact built_hdF HX.out HX.out HZ.out.2)) hw ?_
 refine wpG_nil <| qn rfl (new_hd _) fun g6 HG6 he11 => ?_
 change lexH _ _ _ _ _ _ [(g6, oc (hdA noHd) 29), (gt, oc (wcs (tv bits)) 26), (w.heap.size, oc (tipA noTipM) 37)]
 refine (sh rfl HG6 (infoHd _ (hdA_size HLH.out)) ((hdA_size (h := noHd) len_no).trans (hdA_size HLH.out).symm) (hdA_one _) ?_)
 refine fun _ => enL fun u14 EX13 => ?_
 go_upto_region 5 with (fail)
 refine rgK [0,1,2] 4 EX13 rfl fun hw => ?_
 refine ql rfl mH HLH.out hw ?_
 refine qv (v := .agg (blkA ⟨H, [], none, 0, 0, [], none, 0, 0⟩)) rfl (fun u hu => buildA_op u (built_blkH HLH.out)) hw ?_
 refine ql rfl mH HLH.out hw ?_
 refine wpG_nil <| aO 3 (qr rfl func36 (fun u hu => callsR_fresh (HAP.out u (nl hu))) ?_)
 rintro x N1 hF hf he16
 obtain ⟨A1, c1, rfl, h1, h2⟩ := FreshR.formR hF
 have HF1 := hD (And.intro hF (And.intro h1 h2))
 have HNE : Hid (∀ y ∈ N1, y.1 ≠ w.heap.size) := fun y hy h => (hf y hy).2 _ (mT (mT mH)) h.symm
 clear hF h1 h2
 clear hf
 refine phF [4] 2 rfl he16 fun hw => ?_
 refine qv (v := .agg (tipA ⟨⟨H, [], none, 0, 0, [], none, 0, 0⟩, appT [] (leafH H), A1, (appT [] (leafH H)).length, c1, [], none, 0, 0⟩)) rfl (fun u hu => buildA_op u (built_tip2 (b := ⟨H, [], none, 0, 0, [], none, 0, 0⟩) HLH.out)) hw ?_
 refine wpG_nil <| aO 5 (hOp_store rfl (w.heap.size) (tipA ⟨⟨H, [], none, 0, 0, [], none, 0, 0⟩, appT [] (leafH H), A1, (appT [] (leafH H)).length, c1, [], none, 0, 0⟩) rfl rfl (Nat.le_refl _) 37 ((tipA noTipM)) (mR (mT (mT mH))) (infoTip _ (tipA_size HLH.out)) (tip_sizes HLH.out) (tipA_one _) ((w.heap.size, oc (tipA ⟨⟨H, [], none, 0, 0, [], none, 0, 0⟩, appT [] (leafH H), A1, (appT [] (leafH H)).length, c1, [], none, 0, 0⟩) 37) :: (N1 ++ [])) (mA ⟨.inl rfl, fun y hy => .inr ⟨mL (by simpa using hy), HNE.out y (by simpa using hy)⟩⟩) ?_)
 intro he18
 refine phF [6] 0 rfl he18 fun hw => ?_
 refine qo rfl hw ?_
 refine eH fun u21 EX20 => ?_
 have HTT := hD (HTP.out A1 c1 N1 u21 HF1.out.1 HF1.out.2.1 HF1.out.2.2 (fun y hy => EnvX.box EX20.out _ _ (mT (mL hy))))
 have Q0 := hD (EnvX.box EX20.out _ _ mH)
 have HBEL := hD EX20.out.bel
 clear EX20
 go_wp2_with ((with_reducible refine bodyPost_ret (v := .tuple #[.agg (tipA ⟨⟨H, [], none, 0, 0, [], none, 0, 0⟩, appT [] (leafH H), A1, (appT [] (leafH H)).length, c1, [], none, 0, 0⟩), .bool true]) ?_ ?_ ?_); (exact results_row_slot (p := 2) (q := 3) (ty := 37) results13 _ _ (w.heap.size) 37 (tipA ⟨⟨H, [], none, 0, 0, [], none, 0, 0⟩, appT [] (leafH H), A1, (appT [] (leafH H)).length, c1, [], none, 0, 0⟩) (0, 0) _ rfl _ rfl Q0.out underlying37 rfl (infoTip _ (tipA_size (t := ⟨⟨H, [], none, 0, 0, [], none, 0, 0⟩, appT [] (leafH H), A1, (appT [] (leafH H)).length, c1, [], none, 0, 0⟩) HLH.out))); (rfl))
 exact ⟨⟨⟨⟨H, [], none, 0, 0, [], none, 0, 0⟩, appT [] (leafH H), A1, (appT [] (leafH H)).length, c1, [], none, 0, 0⟩, by rw [HF.out] <;> first | rfl | exact ⟨rfl, rfl⟩, by rw [HF.out]; exact HTT.out⟩, HBEL.out⟩
theorem vbfirst_any (bits : Nat) (w : World) (hb : bits < 4294967296) (ht : Tables w) :
  Calls Tryz.prog 13 #[.int .u32 (bits : Int)] w fun e w' => (∃ t : TipM, e = .returned (.tuple #[tipV t, .bool (firstK bits).2]) ∧ IsTip (firstK bits).1 t w') ∧ Below w.heap.size w w' := by
 cases k : isC bits with
 | false => exact vbfirst_no bits w hb ht k
 | true => exact vbfirst_yes bits w hb ht k
section
variable {a : Act} {dst : Option Tmp} {x : Operand} {ty : TypeId} {pos : String} {after : Array Edge} {gd : Option (Nat × Bool)}
theorem blkA_hd {b : BlkM} (k : lenH b.h) : ((blkA b).toList.drop 0).take 135 = (hdA b.h).toList := by
 show ((hdC b.h ++ _).drop 0).take 135 = hdC b.h
 rw [List.drop_zero]
 exact List.take_left' (hdC_len k)
theorem fieldBH_op {b : BlkM} (k : lenH b.h) (u : World) (hx : a.eval x = blkV b) : (execOp a.eval ⟨dst, .field 33 x 0, ty, pos, after, gd⟩).run Tryz.prog u = .ok (.value (hdV b.h)) u := by
 have p := run_part_agg aggHd (cs := blkA b) (off := 0) (v := hdA b.h) (by have := ext_list (blkA_hd k); rwa [Array.toArray_toList] at this) u
 have h : (Instr.field 33 (blkV b) 0).run Tryz.prog u = .ok (hdV b.h) u := by simp [Instr.field, asAgg, blkV, run_underlying underlying33, p, hdV]
 unfold execOp
 simp only [hx, Sem.run_bind, h, Result.andThen_ok, Sem.run_pure]
end
theorem vbnext_any (t : TipM) (l : List TxM) (A : Option Addr) (n c nonce : Nat) (w : World) (kt : TipOk w t) (mt : midTip t) (hl : l.length = n) (hnc : n ≤ c) (hcm : c ≤ maxLen) (hA : TxsIn w A l) (ml : midTxs l) (hno : nonce < 18446744073709551616) (ht : Tables w) :
  Rz 22 #[tipV t, .slice A n c, .int .u64 (nonce : Int)] w (hdV (nextK t.r (rsT l) nonce)) := by
 unfold Rz
 have HK : Hid (lenH t.b.h) := kt.b.h.len
 have HOK : Hid (okHd (nextK t.r (rsT l) nonce)) := nextK_ok (rsT l) (t := t.r) kt.o3 kt.b.h.2.2.2.2.2.2.1 hno
 have HLE : Hid (w.heap.size ≤ w.heap.size + 1) := by show _ ≤ _; omega
 have HBH : Hid (∀ u, EnvX w u [] → Hands 43 #[tipV t, .slice A n c, .int .u64 (nonce : Int)] u (RBlk ⟨nextK t.r (rsT l) nonce, linksK t.r, rsT l⟩)) := fun u hu => vbehind t l A n c nonce u (kt.up (EnvX.bel hu)) mt hl hnc hcm (hA.up (EnvX.bel hu)) ml hno (ht.below (EnvX.bel hu))
 have E1 : Hid (EnvX w ((w.alloc (.cells (tipA t) 37)).alloc (.cells (hdA noHd) 29)) [(w.heap.size + 1, oc (hdA noHd) 29), (w.heap.size, oc (tipA t) 37)]) := (EnvX.start w).two _ _
 clear kt mt hl hnc hcm hA ml hno ht
 unfold tipV hdV
 go_enter func22, ntmps22
 go_upto_region 1 with (fail)
 rw [← zero_hdA]
 generalize (w.alloc (.cells (tipA t) 37)).alloc (.cells (hdA noHd) 29) = W at *
 refine rgQ [0,1,2] [3,4,5] E1 rfl fun hw => ?_
 refine ql rfl (mT mH) HK.out hw ?_
 refine qw 2 hw ?_
 refine wpG_nil <| qr rfl func43 (fun u hu => HBH.out u (nl hu)) ?_
 rintro x N3 hF hf he2
 obtain ⟨b3, rfl, -, kv⟩ := hF
 have HKV := hD kv
 have HN3 : Hid (∀ y ∈ N3, w.heap.size ≤ y.1 ∧ y.1 ≠ w.heap.size + 1) := fun y hy => ⟨(hf y hy).1, fun h => (hf y hy).2 _ mH h.symm⟩
 clear kv
 have HLB : Hid (lenH b3.h) := by obtain ⟨v, hv⟩ := HKV.out; exact hv.2.h.len
 have HHB : Hid (b3.h = (nextK t.r (rsT l) nonce)) := by obtain ⟨v, hv⟩ := HKV.out; exact congrArg BlkR.h hv.1
 clear hf
 refine phE [4] [5] he2 fun hw => ?_
 refine qv (v := .agg (hdA (nextK t.r (rsT l) nonce))) rfl (fun u hu => by rw [← HHB.out]; exact fieldBH_op (b := b3) HLB.out u rfl) hw ?_
 refine wpG_nil <| (so rfl HLE.out (mR mH) (infoHd _ (hdA_size HOK.out.len)) ((hdA_size (h := noHd) len_no).trans (hdA_size HOK.out.len).symm) (hdA_one _) ?_)
 refine fun _ => enL fun u6 EX5 => ?_
 have Q0 := hD (EnvX.box EX5.out _ _ mH)
 have HBEL := hD EX5.out.bel
 clear EX5
 go_wp2_with ((with_reducible refine bodyPost_ret (v := .agg (hdA (nextK t.r (rsT l) nonce))) ?_ ?_ ?_); (exact results_cell_row (p := 6) (ty := 29) results22 _ _ (w.heap.size + 1) 29 (hdA (nextK t.r (rsT l) nonce)) (0, 0) _ rfl Q0.out underlying29 rfl (infoHd _ (hdA_size HOK.out.len))); (rfl))
 exact HBEL.out
theorem blk_put {b : BlkM} (k : lenH b.h) {X : Hd} (kx : lenH X) : (Tryz.prog.info? 29).map (·.size) = some (Value.agg (hdA X)).cells.size ∧ 0 + (Value.agg (hdA X)).cells.size ≤ (blkA b).size ∧ (Value.agg (hdA X)).cells.all (·.oneCell') = true ∧ (blkA b).toList.take 0 ++ (Value.agg (hdA X)).cells.toList ++ (blkA b).toList.drop (0 + (Value.agg (hdA X)).cells.size) = (blkA { b with h := X }).toList := by
 refine put_factsZ (z := 135) aggHd.size (hdA_size kx) (hdA_one _) (by rw [blkA_size k]; omega) ?_
 show hdC X ++ _ = (hdC b.h ++ _).take 0 ++ hdC X ++ (hdC b.h ++ _).drop (0 + 135)
 rw [blkC_put k]
theorem vbmine_any (t : TipM) (l : List TxM) (A : Option Addr) (n c nonce : Nat) (tries : Int) (w : World) (kt : TipOk w t) (mt : midTip t) (hl : l.length = n) (hnc : n ≤ c) (hcm : c ≤ maxLen) (hA : TxsIn w A l) (ml : midTxs l) (hno : nonce < 18446744073709551616) (hti : I64 tries) (ht : Tables w) :
  Calls Tryz.prog 15 #[tipV t, .slice A n c, .int .u64 (nonce : Int), .int .i64 tries] w fun e w' => (∃ b : BlkM, e = .returned (.tuple #[blkV b, .int .i64 ((mineK t.r (rsT l) nonce tries).2 : Int)]) ∧ IsBlk (mineK t.r (rsT l) nonce tries).1 b w') ∧ Below w.heap.size w w' := by
 have HLT : Hid (lenH t.b.h) := kt.b.h.len
 have HLE : Hid (w.heap.size ≤ w.heap.size + 1) := by show _ ≤ _; omega
 have HNB : Hid (lenH noBlkM.h) := len_no
 have HM4 := mt.2.2.1
 have HL4 := kt.l4
 have HBH : Hid (∀ u, EnvX w u [] → Hands 43 #[tipV t, .slice A n c, .int .u64 (nonce : Int)] u (RBlk ⟨nextK t.r (rsT l) nonce, linksK t.r, rsT l⟩)) := fun u hu => vbehind t l A n c nonce u (kt.up (EnvX.bel hu)) mt hl hnc hcm (hA.up (EnvX.bel hu)) ml hno (ht.below (EnvX.bel hu))
 obtain ⟨K, hK⟩ : ∃ K, nextK t.r (rsT l) nonce = K := ⟨_, rfl⟩
 have hKo : okHd K := by rw [← hK]; exact nextK_ok (rsT l) (t := t.r) kt.o3 kt.b.h.2.2.2.2.2.2.1 hno
 have HKK := hD hK
 have HOK := hD hKo
 rw [hK] at HBH
 have HMH : Hid (Rt w 44 #[hdV K] (.bool (decide (K.height < 48)))) := fun u hu => vmayHeight K u hKo
 obtain ⟨q, er, hap⟩ : ∃ q er, applyP t.c (rsT l) = (q, er) := ⟨_, _, rfl⟩
 have HAP : Hid (applyP t.r.c (rsT l) = (q, er)) := hap
 have HAPP : Hid (∀ u, EnvX w u [] → Calls Tryz.prog 45 #[.slice t.A4 t.n4 t.c4, .slice A n c] u fun e w' => (∃ v, e = .returned (.tuple #[v, .int .i64 (er : Int)]) ∧ CoSl w' v q) ∧ Below u.heap.size u w') := fun u hu => by
  have h := pApplyP_any t.c t.A4 t.n4 t.c4 l A n c u kt.l4 kt.b4.1 kt.b4.2 kt.o4 (CellsIn.up kt.m4 (EnvX.bel hu)) (by omega) hl hnc hcm (hA.up (EnvX.bel hu)) (ht.below (EnvX.bel hu))
  rw [hap] at h
  exact h
 obtain ⟨X, bx, hmx⟩ : ∃ X bx, mineH K tries = (X, bx) := ⟨_, _, rfl⟩
 have HMX := hD hmx
 have HOX : Hid (okHd X) := by have h := okHd_mineB hKo tries; rw [hmx] at h; exact h
 have HMI : Hid (Rt w 46 #[hdV K, .int .i64 tries] (.tuple #[hdV X, .bool bx])) := fun u hu => by have h := hmine_any K tries u hKo hti (ht.below (EnvX.bel hu)); rw [hmx] at h; exact h
 obtain ⟨mh, hmh⟩ : ∃ mh, decide (K.height < 48) = mh := ⟨_, rfl⟩
 have HMH2 := hD hmh
 rw [hmh] at HMH
 have E1 : Hid (EnvX w ((w.alloc (.cells (tipA t) 37)).alloc (.cells (blkA noBlkM) 33)) [(w.heap.size + 1, oc (blkA noBlkM) 33), (w.heap.size, oc (tipA t) 37)]) := (EnvX.start w).two _ _
 clear kt mt hl hnc hcm hA ml hno ht hti hK hKo hap hmx HM4 HL4 hmh
 unfold tipV
 go_enter func15, ntmps15
 go_upto_region 1 with (fail)
 rw [← zero_blkA]
 generalize (w.alloc (.cells (tipA t) 37)).alloc (.cells (blkA noBlkM) 33) = W at *
 refine rgQ [0,1,2] [3,4,5] E1 rfl fun hw => ?_
 refine ql rfl (mT mH) HLT.out hw ?_
 refine qw 2 hw ?_
 refine wpG_nil <| qr rfl func43 (fun u hu => HBH.out u (nl hu)) ?_
 rintro x N3 hF hf he2
 obtain ⟨b3, rfl, kk, kv⟩ := hF
 have HKK_ := hD kk
 have HKV := hD kv
 have HN3 : Hid (∀ y ∈ N3, w.heap.size ≤ y.1 ∧ y.1 ≠ w.heap.size + 1) := fun y hy => ⟨(hf y hy).1, fun h => (hf y hy).2 _ mH h.symm⟩
 clear kk kv
 have HHB : Hid (b3.h = K) := by obtain ⟨v, hv⟩ := HKV.out; exact congrArg BlkR.h hv.1
 have HLB : Hid (lenH b3.h) := by show lenH _; rw [HHB.out]; exact HOK.out.len
 clear hf
 change lexH _ _ _ _ _ _ (N3 ++ ((w.heap.size + 1, oc (blkA noBlkM) 33) :: ((w.heap.size, oc (tipA t) 37) :: [])))
 refine qn rfl (new_blk _) fun g4 HG4 he3 => ?_
 change lexH _ _ _ _ _ _ ((g4, oc (blkA noBlkM) 33) :: (N3 ++ ((w.heap.size + 1, oc (blkA noBlkM) 33) :: ((w.heap.size, oc (tipA t) 37) :: []))))
 refine (sh rfl HG4 (infoBlk _ (blkA_size HLB.out)) (blk_sizes HLB.out) (blkA_one _) ?_)
 refine fun _ => enL fun u6 EX5 => ?_
 have HG4G : Hid (g4 ≠ w.heap.size + 1) := fun h => HG4.out.2 _ (mR mH) h.symm
 have HG43 : Hid (∀ y ∈ N3, y.1 ≠ g4) := fun y hy => HG4.out.2 y (mL hy)
 cases mh with
 | false =>
  have h1 : 48 ≤ K.height := by have := of_decide_eq_false HMH2.out; omega
  have H1 := hD h1
  clear h1
  go_upto_region 2 with (fail)
  refine rgQ [0,1,2,3] [] EX5 rfl fun hw => ?_
  refine qf rfl hw ?_
  refine qv (v := hdV K) rfl (fun u hu => by rw [← HHB.out]; exact load_any_op u (loads_hd HLB.out (box_blk_hd hu mH HLB.out)).1 rfl) hw ?_
  refine qc rfl func44 (fun u hu => HMH.out u (nl hu)) hw ?_
  refine qo rfl hw ?_
  refine enP fun u9 EX8 => ?_
  have HF : Hid (mineK t.r (rsT l) nonce tries = (noBlk, 3)) := mine_e3 HKK.out H1.out
  go_upto_region 3 with (fail)
  refine rgQ [0] [1,2] EX8 rfl fun hw => ?_
  refine qv (v := .agg (blkA noBlkM)) rfl (fun u hu => buildA_op u built_blk0) hw ?_
  refine wpG_nil <| (so rfl HLE.out (mT (mR mH)) (infoBlk _ (blkA_size HNB.out)) (blk_sizes HNB.out) (blkA_one _) ?_)
  intro he11
  refine phE [2] [] he11 fun hw => ?_
  refine qo rfl hw ?_
  refine enP fun u14 EX13 => ?_
  have Q0 := hD (EnvX.box EX13.out _ _ mH)
  have HBEL := hD EX13.out.bel
  clear EX13
  go_wp2_with ((with_reducible refine bodyPost_ret (v := .tuple #[.agg (blkA noBlkM), .int .i64 3]) ?_ ?_ ?_); (exact results_row_slot (p := 8) (q := 9) (ty := 33) results15 _ _ (w.heap.size + 1) 33 (blkA noBlkM) (0, 0) _ rfl _ rfl Q0.out underlying33 rfl (infoBlk _ (blkA_size HNB.out))); (rfl))
  exact ⟨⟨noBlkM, by rw [HF.out] <;> first | rfl | exact ⟨rfl, rfl⟩, by rw [HF.out]; exact ⟨rfl, BlkOk.no _⟩⟩, HBEL.out⟩
 | true =>
  have h1 : ¬ 48 ≤ K.height := by have := of_decide_eq_true HMH2.out; omega
  have H1 := hD h1
  clear h1
  go_upto_region 2 with (fail)
  refine rgQ [0,1,2,3] [] EX5 rfl fun hw => ?_
  refine qf rfl hw ?_
  refine qv (v := hdV K) rfl (fun u hu => by rw [← HHB.out]; exact load_any_op u (loads_hd HLB.out (box_blk_hd hu mH HLB.out)).1 rfl) hw ?_
  refine qc rfl func44 (fun u hu => HMH.out u (nl hu)) hw ?_
  refine qo rfl hw ?_
  refine enP fun u9 EX8 => ?_
  go_upto_region 4 with (fail)
  refine rgQ [0,1,2] [3,4,5,6,7,8] EX8 rfl fun hw => ?_
  refine qf rfl hw ?_
  refine ql rfl (mT (mR (mT mH))) HLT.out hw ?_
  refine qo rfl hw ?_
  refine wpG_nil <| (hOp_turn (gd := none) (R := fun x M' => ∃ A c N, x = .tuple #[.slice A (q).length c, .int .i64 (er : Int)] ∧ M' = N ++ ((g4, oc (blkA b3) 33) :: (N3 ++ ((w.heap.size + 1, oc (blkA noBlkM) 33) :: ((w.heap.size, oc (tipA t) 37) :: [])))) ∧ ((q).length ≤ c ∧ c ≤ maxLen) ∧ CoB (q) A N) rfl rfl rfl rfl (fun u hu => OUpon_call (fid := 45) (xs := #[.tmp 26, .tmp 27]) (args := #[.slice t.A4 t.n4 t.c4, .slice A n c]) rfl func45 rfl rfl u (co_turn2 (HAPP.out u (nl hu)) hu)) ?_)
  rintro _ _ ⟨A8, c8, N8, rfl, rfl, hc8, hb8⟩ he11; intro K' hK'; go_big_quiet_op; go_big_quiet_on
  have HC8 := hD hc8
  have HB8 := hD hb8
  clear hc8 hb8
  refine phE [4,5,6,7,8] [] he11 fun hw => ?_
  refine qw 5 hw ?_
  refine enP fun u14 EX13 => ?_
  have E8 : Hid (EnvX w u14 ((g4, oc (blkA b3) 33) :: (N3 ++ ((w.heap.size + 1, oc (blkA noBlkM) 33) :: ((w.heap.size, oc (tipA t) 37) :: []))))) := EnvX.sub EX13.out (fun y hy => mR (by simpa using hy))
  clear EX13 HB8 HC8
  cases er with
  | succ e =>
   have DE : Hid (decide (((e + 1 : Nat) : Int) ≠ 0) = true) := decide_eq_true (by omega)
   go_upto_region 5 with (fail)
   refine rgQ [0,1] [] E8 rfl fun hw => ?_
   refine qo rfl hw ?_
   refine qv rfl (fun u hu => neErr_op u DE.out rfl rfl) hw ?_
   refine enP fun u17 EX16 => ?_
   have HF : Hid (mineK t.r (rsT l) nonce tries = (noBlk, e + 1)) := by show _ = _; rw [mine_ee HKK.out H1.out (by rw [HAP.out]; exact Nat.succ_ne_zero e), HAP.out]
   go_upto_region 6 with (fail)
   refine rgQ [0,1] [2,3] EX16 rfl fun hw => ?_
   refine qv (v := .agg (blkA noBlkM)) rfl (fun u hu => buildA_op u built_blk0) hw ?_
   refine qo rfl hw ?_
   refine wpG_nil <| (so rfl HLE.out (mT (mR mH)) (infoBlk _ (blkA_size HNB.out)) (blk_sizes HNB.out) (blkA_one _) ?_)
   intro he19
   refine phE [3] [] he19 fun hw => ?_
   refine qo rfl hw ?_
   refine enP fun u22 EX21 => ?_
   have Q0 := hD (EnvX.box EX21.out _ _ mH)
   have HBEL := hD EX21.out.bel
   clear EX21
   go_wp2_with ((with_reducible refine bodyPost_ret (v := .tuple #[.agg (blkA noBlkM), .int .i64 ((e + 1 : Nat) : Int)]) ?_ ?_ ?_); (exact results_row_slot (p := 8) (q := 9) (ty := 33) results15 _ _ (w.heap.size + 1) 33 (blkA noBlkM) (0, 0) _ rfl _ rfl Q0.out underlying33 rfl (infoBlk _ (blkA_size HNB.out))); (rfl))
   exact ⟨⟨noBlkM, by rw [HF.out] <;> first | rfl | exact ⟨rfl, rfl⟩, by rw [HF.out]; exact ⟨rfl, BlkOk.no _⟩⟩, HBEL.out⟩
  | zero =>
   have DE : Hid (decide (((0 : Nat) : Int) ≠ 0) = false) := decide_eq_false (by omega)
   go_upto_region 5 with (fail)
   refine rgQ [0,1] [] E8 rfl fun hw => ?_
   refine qo rfl hw ?_
   refine qv rfl (fun u hu => neErr_op u DE.out rfl rfl) hw ?_
   refine enP fun u17 EX16 => ?_
   have HA0 : Hid (¬ (applyP t.r.c (rsT l)).2 ≠ 0) := by show ¬ _; rw [HAP.out]; exact fun h => h rfl
   go_upto_region 7 with (fail)
   refine rgQ [0,1,2,3,4,5,6] [7,8,9] EX16 rfl fun hw => ?_
   refine qf rfl hw ?_
   refine qv (v := hdV K) rfl (fun u hu => by rw [← HHB.out]; exact load_any_op u (loads_hd HLB.out (box_blk_hd hu mH HLB.out)).1 rfl) hw ?_
   refine qo rfl hw ?_
   refine qc rfl func46 (fun u hu => HMI.out u (nl hu)) hw ?_
   refine qw 3 hw ?_
   refine wpG_nil <| qn rfl (new_hd _) fun g7 HG7 he19 => ?_
   change lexH _ _ _ _ _ _ ((g7, oc (hdA noHd) 29) :: ((g4, oc (blkA b3) 33) :: (N3 ++ ((w.heap.size + 1, oc (blkA noBlkM) 33) :: ((w.heap.size, oc (tipA t) 37) :: [])))))
   refine (sh rfl HG7 (infoHd _ (hdA_size HOX.out.len)) ((hdA_size (h := noHd) len_no).trans (hdA_size HOX.out.len).symm) (hdA_one _) ?_)
   intro he20
   refine phE [9] [] he20 fun hw => ?_
   refine qo rfl hw ?_
   refine enP fun u23 EX22 => ?_
   cases bx with
   | false =>
    go_upto_region 8 with (fail)
    refine rgQ [0,1] [] EX22 rfl fun hw => ?_
    refine qw 2 hw ?_
    refine enP fun u26 EX25 => ?_
    have HF : Hid (mineK t.r (rsT l) nonce tries = (noBlk, 4)) := mine_e4 HKK.out H1.out HA0.out (by rw [HMX.out])
    go_upto_region 9 with (fail)
    refine rgQ [0] [1,2] EX25 rfl fun hw => ?_
    refine qv (v := .agg (blkA noBlkM)) rfl (fun u hu => buildA_op u built_blk0) hw ?_
    refine wpG_nil <| (so rfl HLE.out (mT (mT (mR mH))) (infoBlk _ (blkA_size HNB.out)) (blk_sizes HNB.out) (blkA_one _) ?_)
    intro he28
    refine phE [2] [] he28 fun hw => ?_
    refine qo rfl hw ?_
    refine enP fun u31 EX30 => ?_
    have Q0 := hD (EnvX.box EX30.out _ _ mH)
    have HBEL := hD EX30.out.bel
    clear EX30
    go_wp2_with ((with_reducible refine bodyPost_ret (v := .tuple #[.agg (blkA noBlkM), .int .i64 4]) ?_ ?_ ?_); (exact results_row_slot (p := 8) (q := 9) (ty := 33) results15 _ _ (w.heap.size + 1) 33 (blkA noBlkM) (0, 0) _ rfl _ rfl Q0.out underlying33 rfl (infoBlk _ (blkA_size HNB.out))); (rfl))
    exact ⟨⟨noBlkM, by rw [HF.out] <;> first | rfl | exact ⟨rfl, rfl⟩, by rw [HF.out]; exact ⟨rfl, BlkOk.no _⟩⟩, HBEL.out⟩
   | true =>
    go_upto_region 8 with (fail)
    refine rgQ [0,1] [] EX22 rfl fun hw => ?_
    refine qw 2 hw ?_
    refine enP fun u26 EX25 => ?_
    go_upto_region 10 with (fail)
    refine rgQ [0,1] [2] EX25 rfl fun hw => ?_
    refine qv rfl (fun u hu => load_any_op u (loads_hd HOX.out.len (box_list hu mH)).1 rfl) hw ?_
    refine qf rfl hw ?_
    refine wpG_nil <| (hOp_putAt rfl (g4) (0) (.agg (hdA X)) rfl rfl HG4.out.1 33 ((blkA b3)) (blkA { b3 with h := X }) (mT mH) (blk_put HLB.out HOX.out.len).1 (blk_put HLB.out HOX.out.len).2.1 (blk_put HLB.out HOX.out.len).2.2.1 (blk_put HLB.out HOX.out.len).2.2.2 ((g4, oc (blkA { b3 with h := X }) 33) :: (N3 ++ ((w.heap.size + 1, oc (blkA noBlkM) 33) :: ((w.heap.size, oc (tipA t) 37) :: [])))) (mA ⟨.inl rfl, fun y hy => .inr ((List.mem_append.1 hy).elim (fun h => ⟨mT (mT (mL h)), HG43.out y h⟩) (fun h => ⟨mT (mT (mR h)), HG4.out.2 y (mR h)⟩))⟩) ?_)
    refine fun _ => enL fun u30 EX29 => ?_
    have HLX : Hid (lenH ({ b3 with h := X } : BlkM).h) := HOX.out.len
    have HF : Hid (mineK t.r (rsT l) nonce tries = (⟨X, linksK t.r, rsT l⟩, 0)) := by show _ = _; rw [mine_go HKK.out H1.out HA0.out (by rw [HMX.out]), HMX.out]
    go_upto_region 11 with (fail)
    refine rgQ [0] [1,2] EX29 rfl fun hw => ?_
    refine qv rfl (fun u hu => load_any_op u (box_blk (b := { b3 with h := X }) hu mH HLX.out) rfl) hw ?_
    refine wpG_nil <| (hOp_store rfl (w.heap.size + 1) (blkA { b3 with h := X }) rfl rfl HLE.out 33 ((blkA noBlkM)) (mT (mR mH)) (infoBlk _ (blkA_size (b := { b3 with h := X }) HLX.out)) (blk_sizes (b := { b3 with h := X }) HLX.out) (blkA_one _) ((w.heap.size + 1, oc (blkA { b3 with h := X }) 33) :: (N3 ++ [])) (mA ⟨.inl rfl, fun y hy => .inr ⟨mT (mL (by simpa using hy)), (HN3.out y (by simpa using hy)).2⟩⟩) ?_)
    intro he32
    refine phE [2] [] he32 fun hw => ?_
    refine qo rfl hw ?_
    refine enP fun u35 EX34 => ?_
    have HTT : Hid (IsBlk ⟨X, linksK t.r, rsT l⟩ { b3 with h := X } u35) := by
     have h := HKK_.out w u35 _ EX34.out (fun y hy => mT (by simpa using hy))
     exact ⟨by show BlkR.mk X b3.l (rsT b3.t) = _; rw [show b3.l = linksK t.r from congrArg BlkR.l h.1, show rsT b3.t = rsT l from congrArg BlkR.t h.1], ⟨HOX.out, h.2.l1, h.2.b1, h.2.o1, h.2.m1, h.2.l2, h.2.b2, h.2.m2⟩⟩
    have Q0 := hD (EnvX.box EX34.out _ _ mH)
    have HBEL := hD EX34.out.bel
    clear EX34
    go_wp2_with ((with_reducible refine bodyPost_ret (v := .tuple #[.agg (blkA { b3 with h := X }), .int .i64 0]) ?_ ?_ ?_); (exact results_row_slot (p := 8) (q := 9) (ty := 33) results15 _ _ (w.heap.size + 1) 33 (blkA { b3 with h := X }) (0, 0) _ rfl _ rfl Q0.out underlying33 rfl (infoBlk _ (blkA_size (b := { b3 with h := X }) HLX.out))); (rfl))
    exact ⟨⟨{ b3 with h := X }, by rw [HF.out] <;> first | rfl | exact ⟨rfl, rfl⟩, by rw [HF.out]; exact HTT.out⟩, HBEL.out⟩
theorem kont4 {α β γ δ : Sort _} {F P : α → β → γ → δ → Prop} {G : Prop} (h : (∀ a b c d, F a b c d → P a b c d) → G) (k : ∀ a b c d, F a b c d → P a b c d) : G := h k
theorem FK_push {t : TipR} {b : BlkR} {K : Hd} {d : Hd} {dl : List (List Int)} (hK : nextK t b.t b.h.nonce = K) (hd : d = K) (hl : dl = linksK t) {e : Nat} (he : FK (decide (b.h.height < 48)) (eqPl b.h d) (decide (b.l = dl) && eqL b.h.links d.links) (eqRo b.h d) (mayH b.h) = e + 1) : pushK t b = (t, e + 1) := by
 subst hd hl
 unfold FK at he
 by_cases h1 : b.h.height < 48
 case neg =>
  rw [if_pos (decide_eq_false h1)] at he
  rw [← he]
  exact push_e3 (by omega)
 rw [if_neg (by rw [decide_eq_true h1]; decide)] at he
 have n1 : ¬ 48 ≤ b.h.height := by omega
 by_cases h2 : b.h.height = d.height ∧ b.h.prev = d.prev ∧ b.h.bits = d.bits
 case neg =>
  rw [if_pos (show eqPl b.h d = false from decide_eq_false h2)] at he
  rw [← he]
  exact push_e5 hK n1 h2
 rw [if_neg (by unfold eqPl; rw [decide_eq_true h2]; decide)] at he
 by_cases h3 : b.l = linksK t ∧ b.h.links = d.links
 case neg =>
  rw [if_pos (by unfold eqL; rw [← Bool.decide_and]; exact decide_eq_false h3)] at he
  rw [← he]
  exact push_e6 hK n1 h2 h3
 rw [if_neg (by unfold eqL; rw [← Bool.decide_and, decide_eq_true h3]; decide)] at he
 by_cases h4 : b.h.txs = d.txs ∧ b.h.past = d.past ∧ b.h.work = d.work
 case neg =>
  rw [if_pos (show eqRo b.h d = false from decide_eq_false h4)] at he
  rw [← he]
  exact push_e7 hK n1 h2 h3 h4
 rw [if_neg (by unfold eqRo; rw [decide_eq_true h4]; decide)] at he
 rw [push_rest hK n1 h2 h3 h4]
 cases h5 : mayH b.h with
 | false =>
  rw [if_pos h5] at he
  rw [if_pos rfl, ← he]
 | true =>
  rw [if_neg (by rw [h5]; decide)] at he
  cases he
theorem FK_zero {t : TipR} {b : BlkR} {K : Hd} {d : Hd} {dl : List (List Int)} (hK : nextK t b.t b.h.nonce = K) (hd : d = K) (hl : dl = linksK t) (he : FK (decide (b.h.height < 48)) (eqPl b.h d) (decide (b.l = dl) && eqL b.h.links d.links) (eqRo b.h d) (mayH b.h) = 0) :
  pushK t b = if (applyP t.c b.t).2 ≠ 0 then (t, (applyP t.c b.t).2) else (⟨b, appT t.p (leafH b.h), (applyP t.c b.t).1⟩, 0) := by
 subst hd hl
 unfold FK at he
 by_cases h1 : b.h.height < 48
 case neg => rw [if_pos (decide_eq_false h1)] at he; cases he
 rw [if_neg (by rw [decide_eq_true h1]; decide)] at he
 by_cases h2 : b.h.height = d.height ∧ b.h.prev = d.prev ∧ b.h.bits = d.bits
 case neg => rw [if_pos (show eqPl b.h d = false from decide_eq_false h2)] at he; cases he
 rw [if_neg (by unfold eqPl; rw [decide_eq_true h2]; decide)] at he
 by_cases h3 : b.l = linksK t ∧ b.h.links = d.links
 case neg => rw [if_pos (by unfold eqL; rw [← Bool.decide_and]; exact decide_eq_false h3)] at he; cases he
 rw [if_neg (by unfold eqL; rw [← Bool.decide_and, decide_eq_true h3]; decide)] at he
 by_cases h4 : b.h.txs = d.txs ∧ b.h.past = d.past ∧ b.h.work = d.work
 case neg => rw [if_pos (show eqRo b.h d = false from decide_eq_false h4)] at he; cases he
 rw [if_neg (by unfold eqRo; rw [decide_eq_true h4]; decide)] at he
 rw [push_rest hK (by omega) h2 h3 h4]
 cases h5 : mayH b.h with
 | false => rw [if_pos h5] at he; cases he
 | true => rw [if_neg (by decide)]
theorem vbpush_any (t : TipM) (b : BlkM) (w : World) (kt : TipOk w t) (mt : midTip t) (kb : BlkOk w b) (mb : midBlk b) (ht : Tables w) :
  Calls Tryz.prog 17 #[tipV t, blkV b] w fun e w' => (∃ u : TipM, e = .returned (.tuple #[tipV u, .int .i64 ((pushK t.r b.r).2 : Int)]) ∧ IsTip (pushK t.r b.r).1 u w') ∧ Below w.heap.size w w' := by
 have HLT : Hid (lenH t.b.h) := kt.b.h.len
 have HOB : Hid (okHd b.h) := kb.h
 have HLE : Hid (w.heap.size ≤ w.heap.size + 1 + 1) := by show _ ≤ _; omega
 have hm1 := kt.l3
 have hm4 := mt.2.1
 have hm5 := kb.l1
 have hm6 := mb.1
 have hm9 := mt.2.2.1
 have hm0 := kt.l4
 obtain ⟨K, hK⟩ : ∃ K, nextK t.r b.r.t b.r.h.nonce = K := ⟨_, rfl⟩
 have hK' : nextK t.r (rsT b.t) b.h.nonce = K := hK
 have hKo : okHd K := by rw [← hK]; exact nextK_ok (rsT b.t) (t := t.r) kt.o3 kt.b.h.2.2.2.2.2.2.1 kb.h.2.2.2.2.2.2.2
 have HKQ := hD hK
 have HOK := hD hKo
 have HBH : Hid (∀ u, EnvX w u [] → Hands 43 #[tipV t, .slice b.A2 b.n2 b.c2, .int .u64 (b.h.nonce : Int)] u (RBlk ⟨K, linksK t.r, rsT b.t⟩)) := fun u hu => by rw [← hK']; exact vbehind t b.t b.A2 b.n2 b.c2 b.h.nonce u (kt.up (EnvX.bel hu)) mt kb.l2 kb.b2.1 kb.b2.2 (kb.m2.up (EnvX.bel hu)) mb.2 kb.h.2.2.2.2.2.2.2 (ht.below (EnvX.bel hu))
 have HFT : Hid (∀ (u : World) (d : BlkM), EnvX w u [] → d.h = K → d.l = linksK t.r → BlkOk u d → Calls Tryz.prog 50 #[trV b d] u fun e w' => e = .returned (.int .i64 (FK (decide (b.h.height < 48)) (eqPl b.h d.h) (decide (b.l = d.l) && eqL b.h.links d.h.links) (eqRo b.h d.h) (mayH b.h) : Int)) ∧ Below u.heap.size u w') := fun u d hu e1 e2 hd => vfault b d u kb.h hd.h kb.l1 hd.l1 kb.b1 hd.b1 kb.o1 hd.o1 (by omega) (by have h := hd.l1; rw [e2] at h; have := linksK_len t.r; omega) (kb.m1.up (EnvX.bel hu)) hd.m1 (ht.below (EnvX.bel hu))
 have HCP : Hid (∀ u, EnvX w u [] → Hands 51 #[tipV t] u (RTip t.r)) := fun u hu => vcopyTip t u (kt.up (EnvX.bel hu)) mt
 have HCB : Hid (∀ u, EnvX w u [] → Hands 52 #[blkV b] u (RBlk b.r)) := fun u hu => vcopyBlock b u (kb.up (EnvX.bel hu)) mb
 obtain ⟨q, er, hap⟩ : ∃ q er, applyP t.c (rsT b.t) = (q, er) := ⟨_, _, rfl⟩
 have HAP : Hid (applyP t.r.c b.r.t = (q, er)) := hap
 have HOQ : Hid (okP q) := apply_okP kt.o4 (rsT b.t) hap
 have HAPP : Hid (∀ u, EnvX w u [] → Calls Tryz.prog 45 #[.slice t.A4 t.n4 t.c4, .slice b.A2 b.n2 b.c2] u fun e w' => (∃ v, e = .returned (.tuple #[v, .int .i64 (er : Int)]) ∧ CoSl w' v q) ∧ Below u.heap.size u w') := fun u hu => by
  have h := pApplyP_any t.c t.A4 t.n4 t.c4 b.t b.A2 b.n2 b.c2 u kt.l4 kt.b4.1 kt.b4.2 kt.o4 (CellsIn.up kt.m4 (EnvX.bel hu)) (by omega) kb.l2 kb.b2.1 kb.b2.2 (kb.m2.up (EnvX.bel hu)) (ht.below (EnvX.bel hu))
  rw [hap] at h
  exact h
 have HPA : Hid (∀ u, EnvX w u [] → Calls Tryz.prog 36 #[.slice t.A3 t.n3 t.c3, hdV b.h] u fun e w' => (∃ v, e = .returned v ∧ w'.ownsRow u.heap.size 56 37 v (appT t.p (leafH b.h)).length (((appT t.p (leafH b.h)).map totC).flatten)) ∧ Below u.heap.size u w') := fun u hu => vwithLeaf t.p t.A3 t.n3 t.c3 b.h u kt.l3 (by omega) kt.o3 (CellsIn.up kt.m3 (EnvX.bel hu)) kb.h (ht.below (EnvX.bel hu))
 have HOP : Hid (okTs (appT t.p (leafH b.h))) := app_ok kt.o3 (leafH_ok _)
 have E1 : Hid (EnvX w (((w.alloc (.cells (tipA t) 37)).alloc (.cells (blkA b) 33)).alloc (.cells (tipA noTipM) 37)) [(w.heap.size + 1 + 1, oc (tipA noTipM) 37), (w.heap.size + 1, oc (blkA b) 33), (w.heap.size, oc (tipA t) 37)]) := EnvX.three _ _ _
 clear kt mt kb mb ht hm1 hm4 hm5 hm6 hm9 hm0 hK hK' hKo hap
 unfold tipV blkV
 go_enter func17, ntmps17
 go_upto_region 1 with (fail)
 rw [← zero_tipA]
 generalize ((w.alloc (.cells (tipA t) 37)).alloc (.cells (blkA b) 33)).alloc (.cells (tipA noTipM) 37) = W at *
 apply kont4 (F := fun (d : BlkM) (N1 : Boxes) (g6 : Nat) (u : World) => KeptA N1 (IsBlk ⟨K, linksK t.r, rsT b.t⟩ d) ∧ (∃ v, IsBlk ⟨K, linksK t.r, rsT b.t⟩ d v) ∧ w.heap.size ≤ g6 ∧ (∀ y ∈ N1, w.heap.size ≤ y.1 ∧ y.1 ≠ w.heap.size + 1 + 1) ∧ EnvX w u ((g6, oc (trA b d) 83) :: (N1 ++ [(w.heap.size + 1 + 1, oc (tipA noTipM) 37), (w.heap.size + 1, oc (blkA b) 33), (w.heap.size, oc (tipA t) 37)])))
 case h =>
  intro KONT
  refine rgK [0,1,2,3,4,5,6] 4 E1 rfl fun hw => ?_
  refine ql rfl (mT mH) HOB.out.len hw ?_
  refine ql rfl (mT (mT mH)) HLT.out hw ?_
  refine qf rfl hw ?_
  refine ql rfl (mT mH) HOB.out.len hw ?_
  refine qw 2 hw ?_
  refine qv rfl (fun u hu => load_any_op u (loads_hd HOB.out.len (box_blk_hd hu (mT mH) HOB.out.len)).2.2.2.2.2.2.2.2 rfl) hw ?_
  refine wpG_nil <| anyH_two (i := 7) (j := 9) (by kernel_rfl) ?_ ?_
  · skip
    refine qr rfl func43 (fun u hu => HBH.out u (nl hu)) ?_
    rintro x N1 hF hf he2
    obtain ⟨d, rfl, kd, kv⟩ := hF
    have HKD := hD kd
    have HKV := hD kv
    have HHD : Hid (d.h = K) := by obtain ⟨v, hv⟩ := HKV.out; exact congrArg BlkR.h hv.1
    have HLD : Hid (lenH d.h) := by show lenH _; rw [HHD.out]; exact HOK.out.len
    have HN1 : Hid (∀ y ∈ N1, w.heap.size ≤ y.1 ∧ y.1 ≠ w.heap.size + 1 + 1) := fun y hy => ⟨(hf y hy).1, fun h => (hf y hy).2 _ mH h.symm⟩
    clear kd kv
    clear hf
    refine phF [8] 2 rfl he2 fun hw => ?_
    refine qv (v := .agg (trA b d)) rfl (fun u hu => buildA_op u (built_tr HOB.out.len HLD.out)) hw ?_
    refine wpG_nil <| aO 9 (hOp_fresh (R := fun x N => ∃ g, x = .pointer (some ⟨g, 0, none⟩) ∧ N = [(g, oc (trA noBlkM noBlkM) 83)]) (M0 := (N1 ++ ((w.heap.size + 1 + 1, oc (tipA noTipM) 37) :: ((w.heap.size + 1, oc (blkA b) 33) :: ((w.heap.size, oc (tipA t) 37) :: []))))) rfl rfl (fun _ h => h) (fun u hu => FAt_new (new_tr _) u) ?_)
    rintro _ _ ⟨g6, rfl, rfl⟩ hf he4; intro K' hK'; go_big_quiet_op; go_big_quiet_on
    have HG6 := hD (hf _ (mS.2 rfl))
    have HGA : Hid (∀ y ∈ N1 ++ [(w.heap.size + 1 + 1, oc (tipA noTipM) 37), (w.heap.size + 1, oc (blkA b) 33), (w.heap.size, oc (tipA t) 37)], y.1 ≠ g6) := fun y hy => HG6.out.2 y hy
    clear hf
    change anyH _ _ _ _ _ _ _ _ ((g6, oc (trA noBlkM noBlkM) 83) :: (N1 ++ ((w.heap.size + 1 + 1, oc (tipA noTipM) 37) :: ((w.heap.size + 1, oc (blkA b) 33) :: ((w.heap.size, oc (tipA t) 37) :: [])))))
    refine aO 10 (hOp_store rfl (g6) (trA b d) rfl rfl HG6.out.1 83 ((trA noBlkM noBlkM)) mH (infoTr _ (trA_size HOB.out.len HLD.out)) ((trA_size (b := noBlkM) (d := noBlkM) len_no len_no).trans (trA_size HOB.out.len HLD.out).symm) (trA_one _ _) ((g6, oc (trA b d) 83) :: (N1 ++ ((w.heap.size + 1 + 1, oc (tipA noTipM) 37) :: ((w.heap.size + 1, oc (blkA b) 33) :: ((w.heap.size, oc (tipA t) 37) :: []))))) (mA ⟨.inl rfl, fun y hy => .inr ⟨by first | exact mT hy | exact (List.mem_append.1 hy).elim (fun h => mL h) (fun h => mR (mT h)), HGA.out y hy⟩⟩) ?_)
    intro he5
    refine eM fun u7 EX6 => ?_
    exact KONT d N1 g6 u7 ⟨HKD.out, HKV.out, HG6.out.1, HN1.out, EX6.out⟩
  · skip
    refine qn rfl (new_tr _) fun g6 HG6 he8 => ?_
    change anyH _ _ _ _ _ _ _ _ [(g6, oc (trA noBlkM noBlkM) 83), (w.heap.size + 1 + 1, oc (tipA noTipM) 37), (w.heap.size + 1, oc (blkA b) 33), (w.heap.size, oc (tipA t) 37)]
    refine aO 7 (qr rfl func43 (fun u hu => HBH.out u (nl hu)) ?_)
    rintro x N1 hF hf he9
    obtain ⟨d, rfl, kd, kv⟩ := hF
    have HKD := hD kd
    have HKV := hD kv
    have HHD : Hid (d.h = K) := by obtain ⟨v, hv⟩ := HKV.out; exact congrArg BlkR.h hv.1
    have HLD : Hid (lenH d.h) := by show lenH _; rw [HHD.out]; exact HOK.out.len
    have HN1 : Hid (∀ y ∈ N1, w.heap.size ≤ y.1 ∧ y.1 ≠ w.heap.size + 1 + 1) := fun y hy => ⟨(hf y hy).1, fun h => (hf y hy).2 _ (mT mH) h.symm⟩
    have HGA : Hid (∀ y ∈ N1 ++ [(w.heap.size + 1 + 1, oc (tipA noTipM) 37), (w.heap.size + 1, oc (blkA b) 33), (w.heap.size, oc (tipA t) 37)], y.1 ≠ g6) := fun y hy => (List.mem_append.1 hy).elim (fun h e => (hf y h).2 _ mH e.symm) (fun h => HG6.out.2 y h)
    clear kd kv
    clear hf
    refine phF [8] 1 rfl he9 fun hw => ?_
    refine qv (v := .agg (trA b d)) rfl (fun u hu => buildA_op u (built_tr HOB.out.len HLD.out)) hw ?_
    refine wpG_nil <| aO 10 (hOp_store rfl (g6) (trA b d) rfl rfl HG6.out.1 83 ((trA noBlkM noBlkM)) (mR mH) (infoTr _ (trA_size HOB.out.len HLD.out)) ((trA_size (b := noBlkM) (d := noBlkM) len_no len_no).trans (trA_size HOB.out.len HLD.out).symm) (trA_one _ _) ((g6, oc (trA b d) 83) :: (N1 ++ ((w.heap.size + 1 + 1, oc (tipA noTipM) 37) :: ((w.heap.size + 1, oc (blkA b) 33) :: ((w.heap.size, oc (tipA t) 37) :: []))))) (mA ⟨.inl rfl, fun y hy => .inr ⟨by first | exact mT hy | exact (List.mem_append.1 hy).elim (fun h => mL h) (fun h => mR (mT h)), HGA.out y hy⟩⟩) ?_)
    intro he11
    refine eM fun u13 EX12 => ?_
    exact KONT d N1 g6 u13 ⟨HKD.out, HKV.out, HG6.out.1, HN1.out, EX12.out⟩
 case k =>
 rintro d N1 g6 uk ⟨kd, kv, hg6, hN1, hEk⟩
 have HKD := hD kd
 have HKV := hD kv
 have HHD : Hid (d.h = K) := by obtain ⟨v, hv⟩ := HKV.out; exact congrArg BlkR.h hv.1
 have HDL : Hid (d.l = linksK t.r) := by obtain ⟨v, hv⟩ := HKV.out; exact congrArg BlkR.l hv.1
 have HLD : Hid (lenH d.h) := by show lenH _; rw [HHD.out]; exact HOK.out.len
 have EK := hD hEk
 clear kd kv hg6 hN1 hEk E1
 obtain ⟨ef, hef⟩ : ∃ ef, FK (decide (b.h.height < 48)) (eqPl b.h d.h) (decide (b.l = d.l) && eqL b.h.links d.h.links) (eqRo b.h d.h) (mayH b.h) = ef := ⟨_, rfl⟩
 have HEF := hD hef
 have HFU : Hid (∀ u, EnvX w u ((g6, oc (trA b d) 83) :: (N1 ++ ((w.heap.size + 1 + 1, oc (tipA noTipM) 37) :: ((w.heap.size + 1, oc (blkA b) 33) :: ((w.heap.size, oc (tipA t) 37) :: []))))) → Calls Tryz.prog 50 #[trV b d] u fun e w' => e = .returned (.int .i64 (ef : Int)) ∧ Below u.heap.size u w') := fun u hu => by
  have h := HFT.out u d (nl hu) HHD.out HDL.out (HKD.out w u _ hu (fun y MEM => (mT (mL MEM)))).2
  rw [hef] at h
  exact h
 clear hef HFT
 go_upto_region 2 with (fail)
 refine rgQ [0,1,2] [] EK rfl fun hw => ?_
 refine qv rfl (fun u hu => load_any_op u (box_tr hu mH HOB.out.len HLD.out) rfl) hw ?_
 refine qc rfl func50 (fun u hu => HFU.out u hu) hw ?_
 refine qo rfl hw ?_
 refine enP fun u66 EX65 => ?_
 cases ef with
 | succ e =>
  have DE : Hid (decide (((e + 1 : Nat) : Int) ≠ 0) = true) := decide_eq_true (by omega)
  go_upto_region 3 with (fail)
  refine rgQ [0,1] [] EX65 rfl fun hw => ?_
  refine qo rfl hw ?_
  refine qv rfl (fun u hu => neErr_op u DE.out rfl rfl) hw ?_
  refine enP fun u69 EX68 => ?_
  have HF : Hid (pushK t.r b.r = (t.r, e + 1)) := FK_push (b := b.r) HKQ.out HHD.out HDL.out HEF.out
  go_upto_region 4 with (fail)
  refine rgQ [0] [1,2,3,4] EX68 rfl fun hw => ?_
  refine ql rfl (mT (mR (mT (mT mH)))) HLT.out hw ?_
  refine wpG_nil <| qr rfl func51 (fun u hu => HCP.out u (nl hu)) ?_
  rintro x N24 hF hf he71
  obtain ⟨t24, rfl, kk, kv⟩ := hF
  have HKK := hD kk
  have HKV := hD kv
  have HN24 : Hid (∀ y ∈ N24, w.heap.size ≤ y.1 ∧ y.1 ≠ w.heap.size + 1 + 1) := fun y hy => ⟨(hf y hy).1, fun h => (hf y hy).2 _ (mT (mR mH)) h.symm⟩
  clear kk kv
  have HLU : Hid (lenH t24.b.h) := by obtain ⟨v, hv⟩ := HKV.out; exact hv.2.b.h.len
  clear hf
  refine phE [2] [3,4] he71 fun hw => ?_
  refine qo rfl hw ?_
  refine wpG_nil <| (hOp_store rfl (w.heap.size + 1 + 1) (tipA t24) rfl rfl HLE.out 37 ((tipA noTipM)) (mR (mT (mR mH))) (infoTip _ (tipA_size HLU.out)) (tip_sizes HLU.out) (tipA_one _) ((w.heap.size + 1 + 1, oc (tipA t24) 37) :: (N24 ++ [])) (mA ⟨.inl rfl, fun y hy => .inr ⟨mL (by simpa using hy), (HN24.out y (by simpa using hy)).2⟩⟩) ?_)
  intro he73
  refine phE [4] [] he73 fun hw => ?_
  refine qo rfl hw ?_
  refine enP fun u76 EX75 => ?_
  have HTT : Hid (IsTip t.r t24 u76) := HKK.out w u76 _ EX75.out (fun y hy => mT (by simpa using hy))
  have Q0 := hD (EnvX.box EX75.out _ _ mH)
  have HBEL := hD EX75.out.bel
  clear EX75
  go_wp2_with ((with_reducible refine bodyPost_ret (v := .tuple #[.agg (tipA t24), .int .i64 ((e + 1 : Nat) : Int)]) ?_ ?_ ?_); (exact results_row_slot (p := 4) (q := 5) (ty := 37) results17 _ _ (w.heap.size + 1 + 1) 37 (tipA t24) (0, 0) _ rfl _ rfl Q0.out underlying37 rfl (infoTip _ (tipA_size HLU.out))); (rfl))
  exact ⟨⟨t24, by rw [HF.out] <;> first | rfl | exact ⟨rfl, rfl⟩, by rw [HF.out]; exact HTT.out⟩, HBEL.out⟩
 | zero =>
  have DE : Hid (decide (((0 : Nat) : Int) ≠ 0) = false) := decide_eq_false (by omega)
  go_upto_region 3 with (fail)
  refine rgQ [0,1] [] EX65 rfl fun hw => ?_
  refine qo rfl hw ?_
  refine qv rfl (fun u hu => neErr_op u DE.out rfl rfl) hw ?_
  refine enP fun u69 EX68 => ?_
  have HRE := hD (FK_zero (t := t.r) (b := b.r) HKQ.out HHD.out HDL.out HEF.out)
  have E5 : Hid (EnvX w u69 [(w.heap.size + 1 + 1, oc (tipA noTipM) 37), (w.heap.size + 1, oc (blkA b) 33), (w.heap.size, oc (tipA t) 37)]) := EnvX.sub EX68.out (fun y hy => mT (mR (by simpa using hy)))
  clear EX68 HFU
  go_upto_region 5 with (fail)
  refine rgQ [0,1,2,3] [4,5,6,7,8,9] E5 rfl fun hw => ?_
  refine qf rfl hw ?_
  refine ql rfl (mT (mT mH)) HLT.out hw ?_
  refine qf rfl hw ?_
  refine ql rfl (mT mH) HOB.out.len hw ?_
  refine wpG_nil <| (hOp_turn (gd := none) (R := fun x M' => ∃ A c N, x = .tuple #[.slice A (q).length c, .int .i64 (er : Int)] ∧ M' = N ++ [(w.heap.size + 1 + 1, oc (tipA noTipM) 37), (w.heap.size + 1, oc (blkA b) 33), (w.heap.size, oc (tipA t) 37)] ∧ ((q).length ≤ c ∧ c ≤ maxLen) ∧ CoB (q) A N) rfl rfl rfl rfl (fun u hu => OUpon_call (fid := 45) (xs := #[.tmp 28, .tmp 30]) (args := #[.slice t.A4 t.n4 t.c4, .slice b.A2 b.n2 b.c2]) rfl func45 rfl rfl u (co_turn2 (HAPP.out u (nl hu)) hu)) ?_)
  rintro _ _ ⟨A8, c8, N8, rfl, rfl, hc8, hb8⟩ he71; intro K' hK'; go_big_quiet_op; go_big_quiet_on
  have HC8 := hD hc8
  have HB8 := hD hb8
  clear hc8 hb8
  refine phE [5,6,7,8,9] [] he71 fun hw => ?_
  refine qw 5 hw ?_
  refine enP fun u74 EX73 => ?_
  cases er with
  | succ e =>
    have DF : Hid (decide (((e + 1 : Nat) : Int) ≠ 0) = true) := decide_eq_true (by omega)
    go_upto_region 6 with (fail)
    refine rgQ [0,1] [] EX73 rfl fun hw => ?_
    refine qo rfl hw ?_
    refine qv rfl (fun u hu => neErr_op u DF.out rfl rfl) hw ?_
    refine enP fun u77 EX76 => ?_
    have E6 : Hid (EnvX w u77 [(w.heap.size + 1 + 1, oc (tipA noTipM) 37), (w.heap.size + 1, oc (blkA b) 33), (w.heap.size, oc (tipA t) 37)]) := EnvX.sub EX76.out (fun y hy => mR (by simpa using hy))
    clear EX76
    have HF : Hid (pushK t.r b.r = (t.r, e + 1)) := by show _ = _; rw [HRE.out, HAP.out, if_pos (Nat.succ_ne_zero e)]
    go_upto_region 7 with (fail)
    refine rgQ [0] [1,2,3,4] E6 rfl fun hw => ?_
    refine ql rfl (mT (mT mH)) HLT.out hw ?_
    refine wpG_nil <| qr rfl func51 (fun u hu => HCP.out u (nl hu)) ?_
    rintro x N37 hF hf he79
    obtain ⟨t37, rfl, kk, kv⟩ := hF
    have HKK := hD kk
    have HKV := hD kv
    have HN37 : Hid (∀ y ∈ N37, w.heap.size ≤ y.1 ∧ y.1 ≠ w.heap.size + 1 + 1) := fun y hy => ⟨(hf y hy).1, fun h => (hf y hy).2 _ mH h.symm⟩
    clear kk kv
    have HLU : Hid (lenH t37.b.h) := by obtain ⟨v, hv⟩ := HKV.out; exact hv.2.b.h.len
    clear hf
    refine phE [2] [3,4] he79 fun hw => ?_
    refine qo rfl hw ?_
    refine wpG_nil <| (hOp_store rfl (w.heap.size + 1 + 1) (tipA t37) rfl rfl HLE.out 37 ((tipA noTipM)) (mR mH) (infoTip _ (tipA_size HLU.out)) (tip_sizes HLU.out) (tipA_one _) ((w.heap.size + 1 + 1, oc (tipA t37) 37) :: (N37 ++ [])) (mA ⟨.inl rfl, fun y hy => .inr ⟨mL (by simpa using hy), (HN37.out y (by simpa using hy)).2⟩⟩) ?_)
    intro he81
    refine phE [4] [] he81 fun hw => ?_
    refine qo rfl hw ?_
    refine enP fun u84 EX83 => ?_
    have HTT : Hid (IsTip t.r t37 u84) := HKK.out w u84 _ EX83.out (fun y hy => mT (by simpa using hy))
    have Q0 := hD (EnvX.box EX83.out _ _ mH)
    have HBEL := hD EX83.out.bel
    clear EX83
    go_wp2_with ((with_reducible refine bodyPost_ret (v := .tuple #[.agg (tipA t37), .int .i64 ((e + 1 : Nat) : Int)]) ?_ ?_ ?_); (exact results_row_slot (p := 4) (q := 5) (ty := 37) results17 _ _ (w.heap.size + 1 + 1) 37 (tipA t37) (0, 0) _ rfl _ rfl Q0.out underlying37 rfl (infoTip _ (tipA_size HLU.out))); (rfl))
    exact ⟨⟨t37, by rw [HF.out] <;> first | rfl | exact ⟨rfl, rfl⟩, by rw [HF.out]; exact HTT.out⟩, HBEL.out⟩
  | zero =>
    have DF : Hid (decide (((0 : Nat) : Int) ≠ 0) = false) := decide_eq_false (by omega)
    go_upto_region 6 with (fail)
    refine rgQ [0,1] [] EX73 rfl fun hw => ?_
    refine qo rfl hw ?_
    refine qv rfl (fun u hu => neErr_op u DF.out rfl rfl) hw ?_
    refine enP fun u77 EX76 => ?_
    have HF : Hid (pushK t.r b.r = (⟨b.r, appT t.p (leafH b.h), q⟩, 0)) := by show _ = _; rw [HRE.out, HAP.out, if_neg (fun h => h rfl)]; rfl
    obtain ⟨N9, hb9, hn9⟩ := CoB.apart HB8.out HOQ.out EX76.out (fun y MEM => (mL MEM)) (mR mH) tip_noint
    have HB9 := hD hb9
    have HN9 := hD hn9
    have E9 : Hid (EnvX w u77 (N9 ++ ((w.heap.size + 1 + 1, oc (tipA noTipM) 37) :: ((w.heap.size + 1, oc (blkA b) 33) :: ((w.heap.size, oc (tipA t) 37) :: []))))) := EnvX.sub EX76.out (fun y hy => by
     rcases List.mem_append.1 hy with h | h
     · exact mL (HN9.out y h).1
     · exact mR h)
    clear EX76 hb9 hn9
    go_upto_region 8 with (fail)
    refine rgK [0,2,3,4,5,7] 5 E9 rfl fun hw => ?_
    refine ql rfl (mR (mT mH)) HOB.out.len hw ?_
    refine qf rfl hw ?_
    refine ql rfl (mR (mT (mT mH))) HLT.out hw ?_
    refine qf rfl hw ?_
    refine qv rfl (fun u hu => load_any_op u (loads_hd HOB.out.len (box_blk_hd hu (mR (mT mH)) HOB.out.len)).1 rfl) hw ?_
    refine qo rfl hw ?_
    refine wpG_nil <| aO 1 (qr rfl func52 (fun u hu => HCB.out u (nl hu)) ?_)
    rintro x N1b hF hf he79
    obtain ⟨b2, rfl, kk, kv⟩ := hF
    have HKK2 := hD kk
    have HKV2 := hD kv
    have HN1b : Hid (∀ y ∈ N1b, w.heap.size ≤ y.1 ∧ y.1 ≠ w.heap.size + 1 + 1) := fun y hy => ⟨(hf y hy).1, fun h => (hf y hy).2 _ (mR mH) h.symm⟩
    clear kk kv
    have HLB2 : Hid (lenH b2.h) := by obtain ⟨v, hv⟩ := HKV2.out; exact hv.2.h.len
    clear hf
    change anyH _ _ _ _ _ _ _ _ (N1b ++ (N9 ++ ((w.heap.size + 1 + 1, oc (tipA noTipM) 37) :: ((w.heap.size + 1, oc (blkA b) 33) :: ((w.heap.size, oc (tipA t) 37) :: [])))))
    refine aO 6 (qr rfl func36 (fun u hu => callsR_fresh (HPA.out u (nl hu))) ?_)
    rintro x N6 hF hf he80
    obtain ⟨A17, c17, rfl, k1, k2⟩ := FreshR.formR hF
    have HF6 := hD (And.intro hF (And.intro k1 k2))
    have HN6 : Hid (∀ y ∈ N6, w.heap.size ≤ y.1 ∧ y.1 ≠ w.heap.size + 1 + 1) := fun y hy => ⟨(hf y hy).1, fun h => (hf y hy).2 _ (mR (mR mH)) h.symm⟩
    clear hF k1 k2
    clear hf
    refine phF [8] 2 rfl he80 fun hw => ?_
    refine qv (v := .agg (tipA ⟨b2, appT t.p (leafH b.h), A17, (appT t.p (leafH b.h)).length, c17, q, A8, q.length, c8⟩)) rfl (fun u hu => buildA_op u (built_tip (t := ⟨b2, appT t.p (leafH b.h), A17, (appT t.p (leafH b.h)).length, c17, q, A8, q.length, c8⟩) HLB2.out)) hw ?_
    refine wpG_nil <| aO 9 (hOp_store rfl (w.heap.size + 1 + 1) (tipA ⟨b2, appT t.p (leafH b.h), A17, (appT t.p (leafH b.h)).length, c17, q, A8, q.length, c8⟩) rfl rfl HLE.out 37 ((tipA noTipM)) (mR (mR (mR mH))) (infoTip _ (tipA_size (t := ⟨b2, appT t.p (leafH b.h), A17, (appT t.p (leafH b.h)).length, c17, q, A8, q.length, c8⟩) HLB2.out)) (tip_sizes (t := ⟨b2, appT t.p (leafH b.h), A17, (appT t.p (leafH b.h)).length, c17, q, A8, q.length, c8⟩) HLB2.out) (tipA_one _) ((w.heap.size + 1 + 1, oc (tipA ⟨b2, appT t.p (leafH b.h), A17, (appT t.p (leafH b.h)).length, c17, q, A8, q.length, c8⟩) 37) :: (N6 ++ (N1b ++ (N9 ++ [])))) (mA ⟨.inl rfl, fun y hy => .inr ((List.mem_append.1 hy).elim (fun h => ⟨mL h, (HN6.out y h).2⟩) (fun hy => (List.mem_append.1 hy).elim (fun h => ⟨mR (mL h), (HN1b.out y h).2⟩) (fun h => ⟨mR (mR (mL (by simpa using h))), (HN9.out y (by simpa using h)).2⟩)))⟩) ?_)
    intro he82
    refine phF [10] 0 rfl he82 fun hw => ?_
    refine qo rfl hw ?_
    refine eH fun u85 EX84 => ?_
    have HTT : Hid (IsTip ⟨b.r, appT t.p (leafH b.h), q⟩ ⟨b2, appT t.p (leafH b.h), A17, (appT t.p (leafH b.h)).length, c17, q, A8, q.length, c8⟩ u85) := by
     have hb := HKK2.out w u85 _ EX84.out (fun y hy => mT (mR (mL hy)))
     exact ⟨by show TipR.mk b2.r _ _ = TipR.mk b.r _ _; rw [hb.1], ⟨hb.2, rfl, HF6.out.2, HOP.out, fresh_totsB HF6.out.1 rfl HOP.out (fun y hy => EnvX.box EX84.out _ _ (mT (mL hy))), rfl, HC8.out, HOQ.out, CoB.read HB9.out EX84.out (fun y hy => mT (mR (mR (by simpa using hy))))⟩⟩
    have Q0 := hD (EnvX.box EX84.out _ _ mH)
    have HBEL := hD EX84.out.bel
    clear EX84
    go_wp2_with ((with_reducible refine bodyPost_ret (v := .tuple #[.agg (tipA ⟨b2, appT t.p (leafH b.h), A17, (appT t.p (leafH b.h)).length, c17, q, A8, q.length, c8⟩), .int .i64 0]) ?_ ?_ ?_); (exact results_row_slot (p := 4) (q := 5) (ty := 37) results17 _ _ (w.heap.size + 1 + 1) 37 (tipA ⟨b2, appT t.p (leafH b.h), A17, (appT t.p (leafH b.h)).length, c17, q, A8, q.length, c8⟩) (0, 0) _ rfl _ rfl Q0.out underlying37 rfl (infoTip _ (tipA_size (t := ⟨b2, appT t.p (leafH b.h), A17, (appT t.p (leafH b.h)).length, c17, q, A8, q.length, c8⟩) HLB2.out))); (rfl))
    exact ⟨⟨⟨b2, appT t.p (leafH b.h), A17, (appT t.p (leafH b.h)).length, c17, q, A8, q.length, c8⟩, by rw [HF.out] <;> first | rfl | exact ⟨rfl, rfl⟩, by rw [HF.out]; exact HTT.out⟩, HBEL.out⟩
theorem blockC : BlockC where
 first := fun bits w hb ht => vbfirst_any bits w hb ht
 next := fun t l A n c nonce w kt mt hl hnc hcm hA ml hno ht => vbnext_any t l A n c nonce w kt mt hl hnc hcm hA ml hno ht
 mine := fun t l A n c nonce tries w kt mt hl hnc hcm hA ml hno hti ht => vbmine_any t l A n c nonce tries w kt mt hl hnc hcm hA ml hno hti ht
 push := fun t b w kt mt kb mb ht => vbpush_any t b w kt mt kb mb ht
 same := fun b d w kb mb kd md _ => vbsame_any b d w kb mb kd md
theorem awkC : AwkC where
 id := fun h w hh ht => hid_any h w hh ht
 of := fun n w hn => of_n n w hn
theorem mayC : MayC := ⟨fun h w hh ht => hmay_any h w hh ht⟩
theorem workC : WorkC := ⟨fun h w hh _ => hwork_any h w hh⟩
theorem mrootC : MRootC := ⟨fun p A n c w hl hn _ _ hI hA ht => mroot_any p A n c w hl hn hI hA ht⟩
section
variable {a : Act} {dst : Option Tmp} {x y : Operand} {ty : TypeId} {pos : String} {after : Array Edge} {gd : Option (Nat × Bool)}
end
theorem infoIdk (x : List Int) (hx : x.length = 32) : (Tryz.prog.info? 23).map (·.size) = some (idv x).cells.size := by
 have hz : (idv x).cells.size = 32 := arrB_size _ _ (by rw [hx]; omega)
 have h : (Tryz.prog.info? 23).map (·.size) = some 32 := by kernel_rfl
 rw [hz, h]
theorem infoU64k : (Tryz.prog.info? 24).map (·.size) = some 1 := by kernel_rfl
theorem infoU32k : (Tryz.prog.info? 27).map (·.size) = some 1 := by kernel_rfl
theorem push_mid {t : TipM} {b : BlkM} {r : TipR} {w : World} (ht : TipOk w t) (hf : fewP t = true) (hb : fewK b = true) (h : pushK t.r b.r = (r, 0)) {u : TipM} (hu : u.r = r) : midTip u := by
 obtain ⟨-, -, -, -, -, rfl⟩ := push_ok h
 obtain ⟨-, -, -, h2, h3⟩ := fewP.mid hf
 have e1 : u.b.l = b.l := congrArg (fun t : TipR => t.b.l) hu
 have e2 : u.p = appT t.p (leafH b.h) := congrArg (fun t : TipR => t.p) hu
 have e3 : u.c = (applyP t.c (rsT b.t)).1 := congrArg (fun t : TipR => t.c) hu
 have hl := (fewK.mid hb).2
 have e4 : rsT u.b.t = rsT b.t := congrArg (fun t : TipR => t.b.t) hu
 refine ⟨by rw [e1]; omega, ?_, ?_, midTxs_r e4 (fewK.mid hb).1.2⟩
 · rw [e2]
   unfold appT
   rw [List.length_reverse]
   have := carry_len t.p.reverse (leafH b.h)
   rw [List.length_reverse] at this
   omega
 · rw [e3]
   exact (apply_len ht.o4 (by omega) (rsT b.t) (d := (applyP t.c (rsT b.t)).1) (e := (applyP t.c (rsT b.t)).2) rfl).2
end Go.Proofs.YtpanpohdnbgdpaaGreatDoor
