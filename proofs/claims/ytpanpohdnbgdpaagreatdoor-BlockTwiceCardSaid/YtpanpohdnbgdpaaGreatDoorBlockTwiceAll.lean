/-
  PROVED: the law stepladderlaw11.BlockTwice answers true for every input, and leaves its arguments as they were.
  Conditions: the two package-level tables of package sha hold at the call what their initialisers lay; the card ties that to the text of the program (a pruned copy of the project: the packages that the roots of this seat load).
-/
import Derived.Test.YtpanpohdnbgdpaaGreatDoorZj
open Go.Proofs.Tryz
namespace Go.Proofs.YtpanpohdnbgdpaaGreatDoor
set_option maxRecDepth 20000
set_option maxHeartbeats 8000000
set_option linter.unusedVariables false
set_option linter.unusedSimpArgs false
theorem push_bits {t u : TipR} {b : BlkR} (h : pushK t b = (u, 0)) {k : Nat} (hk : k ≠ b.h.bits) : (pushK t { b with h := { b.h with bits := k } }).2 = 5 := by
 obtain ⟨h1, h2, -⟩ := push_ok h
 have e : b.h.bits = t.b.h.bits := by
  have := congrArg Hd.bits h1
  exact this
 unfold pushK
 rw [if_neg (show ¬ (48 ≤ b.h.height) by omega), if_pos]
 intro hh
 exact hk (by rw [e]; exact hh.2.2)
theorem push_twice {t u : TipR} {b : BlkR} (hb : I64 b.h.height) (h : pushK t b = (u, 0)) : (pushK u b).2 ≠ 0 := by
 obtain ⟨h1, h2, h3, h4, h5, rfl⟩ := push_ok h
 intro h0
 have h6 := congrArg Hd.height (push_iff.1 h0).1
 have h7 : b.h.height = IntKind.i64.wrap (b.h.height + 1) := h6
 rw [IntKind.wrap_i64] at h7
 unfold I64 at hb
 omega
open Go.RowKit
theorem eqlU32k_op {a : Act} {dst : Option Tmp} {x y : Operand} {ty : TypeId} {pos : String} {after : Array Edge} {gd : Option (Nat × Bool)} {m k : Int} {b : Bool} (u : World) (hb : decide (m = k) = b) (hx : a.eval x = .int .u32 m) (hy : a.eval y = .int .u32 k) :
  (execOp a.eval ⟨dst, .binOp .eql 27 x y 27, ty, pos, after, gd⟩).run Tryz.prog u = .ok (.value (.bool b)) u := by
 have e : (m == k) = b := by rw [← hb]; by_cases h : m = k <;> simp [h]
 unfold execOp
 simp only [hx, hy]
 go_simp
theorem law_btwice_fewt (H : BlockC) (G : AwkC) (t : TipM) (b : BlkM) (bits : Nat) (w : World) (kt : TipOk w t) (kb : BlkOk w b) (hbits : bits < 4294967296) (ht : Tables w) (k1 : fewP t = false) (k2 : fewK b = fewK b) :
  Rz 9 #[tipV t, blkV b, .int .u32 (bits : Int)] w (.bool true) := by
 unfold Rz
 have HT := hD ht
 have HH := hD H
 have KT := hD kt
 have KB := hD kb
 have HKt : Hid (lenH t.b.h) := kt.b.h.len
 have HKb : Hid (lenH b.h) := kb.h.len
 have HFP : Hid (fewP t = false) := k1
 have HFK : Hid (fewK b = fewK b) := k2
 have HAW : Hid (Rt w 10 #[] (.bool true)) := fun u hu => bawake_any H G u (ht.below (EnvX.bel hu))
 have E1 : Hid (EnvX w ((w.alloc (.cells (tipA t) 37)).alloc (.cells (blkA b) 33)) [(w.heap.size + 1, oc (blkA b) 33), (w.heap.size, oc (tipA t) 37)]) := (EnvX.start w).two _ _
 clear ht H G kt kb k1 k2
 unfold tipV blkV
 go_enter func9, ntmps9
 go_upto_region 1 with (fail)
 generalize (w.alloc (.cells (tipA t) 37)).alloc (.cells (blkA b) 33) = W at *
 refine rgQ [0,1] [] E1 rfl fun hw => ?_
 refine qc rfl func10 (fun u hu => HAW.out u (nl hu)) hw ?_
 refine qo rfl hw ?_
 refine enP fun u3 EX2 => ?_
 go_upto_region 2 with (fail)
 refine rgQ [0,1,2] [] EX2 rfl fun hw => ?_
 refine ql rfl (mT mH) HKt.out hw ?_
 refine qc (args := #[tipV t]) (v := .bool false) rfl func11 (fun u hu => by have h1 := fewtip_any t u (KT.out.up (EnvX.bel hu)); rwa [HFP.out] at h1) hw ?_
 refine qo rfl hw ?_
 refine enP fun u6 EX5 => ?_
 go_upto_region 3 with (fail)
 refine rgQ [0,1,2] [] EX5 rfl fun hw => ?_
 refine ql rfl mH HKb.out hw ?_
 refine qc (args := #[blkV b]) (v := .bool (fewK b)) rfl func12 (fun u hu => by have h1 := fewblk_any b u (KB.out.up (EnvX.bel hu)); rwa [HFK.out] at h1) hw ?_
 refine qo rfl hw ?_
 refine enP fun u9 EX8 => ?_
 go_upto_region 4 with (fail)
 refine rgQ [0,1,2,3,4,5,6,7,8,9] [] EX8 rfl fun hw => ?_
 refine qw 10 hw ?_
 refine enP fun u12 EX11 => ?_
 go_upto_region 5 with (fail)
 refine rgQ [0,1] [] EX11 rfl fun hw => ?_
 refine qw 2 hw ?_
 refine enP fun u15 EX14 => ?_
 have HBE := hD (EnvX.bel EX14.out)
 go_wp2
 go_ret
 exact ⟨rfl, HBE.out⟩
theorem law_btwice_fewb (H : BlockC) (G : AwkC) (t : TipM) (b : BlkM) (bits : Nat) (w : World) (kt : TipOk w t) (kb : BlkOk w b) (hbits : bits < 4294967296) (ht : Tables w) (k1 : fewP t = true) (k2 : fewK b = false) :
  Rz 9 #[tipV t, blkV b, .int .u32 (bits : Int)] w (.bool true) := by
 unfold Rz
 have HT := hD ht
 have HH := hD H
 have KT := hD kt
 have KB := hD kb
 have HKt : Hid (lenH t.b.h) := kt.b.h.len
 have HKb : Hid (lenH b.h) := kb.h.len
 have HFP : Hid (fewP t = true) := k1
 have HFK : Hid (fewK b = false) := k2
 have HAW : Hid (Rt w 10 #[] (.bool true)) := fun u hu => bawake_any H G u (ht.below (EnvX.bel hu))
 have E1 : Hid (EnvX w ((w.alloc (.cells (tipA t) 37)).alloc (.cells (blkA b) 33)) [(w.heap.size + 1, oc (blkA b) 33), (w.heap.size, oc (tipA t) 37)]) := (EnvX.start w).two _ _
 clear ht H G kt kb k1 k2
 unfold tipV blkV
 go_enter func9, ntmps9
 go_upto_region 1 with (fail)
 generalize (w.alloc (.cells (tipA t) 37)).alloc (.cells (blkA b) 33) = W at *
 refine rgQ [0,1] [] E1 rfl fun hw => ?_
 refine qc rfl func10 (fun u hu => HAW.out u (nl hu)) hw ?_
 refine qo rfl hw ?_
 refine enP fun u3 EX2 => ?_
 go_upto_region 2 with (fail)
 refine rgQ [0,1,2] [] EX2 rfl fun hw => ?_
 refine ql rfl (mT mH) HKt.out hw ?_
 refine qc (args := #[tipV t]) (v := .bool true) rfl func11 (fun u hu => by have h1 := fewtip_any t u (KT.out.up (EnvX.bel hu)); rwa [HFP.out] at h1) hw ?_
 refine qo rfl hw ?_
 refine enP fun u6 EX5 => ?_
 go_upto_region 3 with (fail)
 refine rgQ [0,1,2] [] EX5 rfl fun hw => ?_
 refine ql rfl mH HKb.out hw ?_
 refine qc (args := #[blkV b]) (v := .bool false) rfl func12 (fun u hu => by have h1 := fewblk_any b u (KB.out.up (EnvX.bel hu)); rwa [HFK.out] at h1) hw ?_
 refine qo rfl hw ?_
 refine enP fun u9 EX8 => ?_
 go_upto_region 4 with (fail)
 refine rgQ [0,1,2,3,4,5,6,7,8,9] [] EX8 rfl fun hw => ?_
 refine qw 10 hw ?_
 refine enP fun u12 EX11 => ?_
 go_upto_region 5 with (fail)
 refine rgQ [0,1] [] EX11 rfl fun hw => ?_
 refine qw 2 hw ?_
 refine enP fun u15 EX14 => ?_
 have HBE := hD (EnvX.bel EX14.out)
 go_wp2
 go_ret
 exact ⟨rfl, HBE.out⟩
theorem law_btwice_err (H : BlockC) (G : AwkC) (t : TipM) (b : BlkM) (bits : Nat) (w : World) (kt : TipOk w t) (kb : BlkOk w b) (hbits : bits < 4294967296) (ht : Tables w) (k1 : fewP t = true) (k2 : fewK b = true) {r1 : TipR} {e1 : Nat} (hp : pushK t.r b.r = (r1, e1 + 1)) :
  Rz 9 #[tipV t, blkV b, .int .u32 (bits : Int)] w (.bool true) := by
 unfold Rz
 have HT := hD ht
 have HH := hD H
 have KT := hD kt
 have KB := hD kb
 have HKt : Hid (lenH t.b.h) := kt.b.h.len
 have HKb : Hid (lenH b.h) := kb.h.len
 have HFP : Hid (fewP t = true) := k1
 have HFK : Hid (fewK b = true) := k2
 have HAW : Hid (Rt w 10 #[] (.bool true)) := fun u hu => bawake_any H G u (ht.below (EnvX.bel hu))
 have E1 : Hid (EnvX w ((w.alloc (.cells (tipA t) 37)).alloc (.cells (blkA b) 33)) [(w.heap.size + 1, oc (blkA b) 33), (w.heap.size, oc (tipA t) 37)]) := (EnvX.start w).two _ _
 clear ht H G kt kb k1 k2
 have HM1 := hD (fewP.mid HFP.out)
 have HM2 := hD (fewK.mid HFK.out)
 have HP1 := hD hp
 clear hp
 unfold tipV blkV
 go_enter func9, ntmps9
 go_upto_region 1 with (fail)
 generalize (w.alloc (.cells (tipA t) 37)).alloc (.cells (blkA b) 33) = W at *
 refine rgQ [0,1] [] E1 rfl fun hw => ?_
 refine qc rfl func10 (fun u hu => HAW.out u (nl hu)) hw ?_
 refine qo rfl hw ?_
 refine enP fun u3 EX2 => ?_
 go_upto_region 2 with (fail)
 refine rgQ [0,1,2] [] EX2 rfl fun hw => ?_
 refine ql rfl (mT mH) HKt.out hw ?_
 refine qc (args := #[tipV t]) (v := .bool true) rfl func11 (fun u hu => by have h1 := fewtip_any t u (KT.out.up (EnvX.bel hu)); rwa [HFP.out] at h1) hw ?_
 refine qo rfl hw ?_
 refine enP fun u6 EX5 => ?_
 go_upto_region 3 with (fail)
 refine rgQ [0,1,2] [] EX5 rfl fun hw => ?_
 refine ql rfl mH HKb.out hw ?_
 refine qc (args := #[blkV b]) (v := .bool true) rfl func12 (fun u hu => by have h1 := fewblk_any b u (KB.out.up (EnvX.bel hu)); rwa [HFK.out] at h1) hw ?_
 refine qo rfl hw ?_
 refine enP fun u9 EX8 => ?_
 go_upto_region 4 with (fail)
 refine rgQ [0,1,2,3,4,5,6,7,8,9] [] EX8 rfl fun hw => ?_
 refine qw 10 hw ?_
 refine enP fun u12 EX11 => ?_
 go_upto_region 6 with (fail)
 refine rgQ [0,1] [2,3,4,5,6,7,8] EX11 rfl fun hw => ?_
 refine ql rfl (mT mH) HKt.out hw ?_
 refine ql rfl mH HKb.out hw ?_
 refine wpG_nil <| (hOp_turn (gd := none) (R := fun x M' => ∃ tq N, x = .tuple #[.agg (tipA tq), .int .i64 ((e1 + 1 : Nat) : Int)] ∧ M' = N ++ [(w.heap.size + 1, oc (blkA b) 33), (w.heap.size, oc (tipA t) 37)] ∧ KeptB w N (IsTip (r1) tq) ∧ ∃ vq, IsTip (r1) tq vq) rfl rfl rfl rfl (fun u hu => OUpon_call (fid := 17) (xs := #[.tmp 34, .tmp 35]) (args := #[tipV t, blkV b]) rfl func17 rfl rfl u (tip_turn (by have h := HH.out.push t b u (KT.out.up (EnvX.bel hu)) HM1.out.1 (KB.out.up (EnvX.bel hu)) HM2.out.1 (HT.out.below (EnvX.bel hu)); rw [HP1.out] at h; simp only at h; exact h) hu)) ?_)
 rintro _ _ ⟨u6, N6, rfl, rfl, hk6, hv6⟩ he14; intro K' hK'; go_big_quiet_op; go_big_quiet_on
 have HT6 := hD hk6
 have HV6 := hD hv6
 have HK6 : Hid (lenH u6.b.h) := by obtain ⟨v, hv⟩ := HV6.out; exact hv.2.b.h.len
 clear hk6 hv6
 refine phE [3,4,5] [6,7,8] he14 fun hw => ?_
 refine qw 3 hw ?_
 refine wpG_nil <| qn rfl (new_tip _) fun g6 HGg6 he16 => ?_
 change lexH _ _ _ _ _ _ ((g6, oc (tipA noTipM) 37) :: (N6 ++ ((w.heap.size + 1, oc (blkA b) 33) :: ((w.heap.size, oc (tipA t) 37) :: []))))
 refine (sh rfl HGg6 (infoTip _ (tipA_size HK6.out)) (tip_sizes HK6.out) (tipA_one _) ?_)
 intro he17
 refine phE [8] [] he17 fun hw => ?_
 refine qo rfl hw ?_
 refine enP fun u20 EX19 => ?_
 go_upto_region 7 with (fail)
 refine rgQ [0,1] [] EX19 rfl fun hw => ?_
 refine qo rfl hw ?_
 refine qv (v := .bool true) rfl (fun u hu => neErr_op u (decide_eq_true (by omega)) rfl rfl) hw ?_
 refine enP fun u23 EX22 => ?_
 go_upto_region 8 with (fail)
 refine rgQ [0] [] EX22 rfl fun hw => ?_
 refine qo rfl hw ?_
 refine enP fun u26 EX25 => ?_
 have HBE := hD (EnvX.bel EX25.out)
 go_wp2
 go_ret
 exact ⟨rfl, HBE.out⟩
theorem law_btwice_main (H : BlockC) (G : AwkC) (t : TipM) (b : BlkM) (bits : Nat) (w : World) (kt : TipOk w t) (kb : BlkOk w b) (hbits : bits < 4294967296) (ht : Tables w) (k1 : fewP t = true) (k2 : fewK b = true) {r1 : TipR} (hp : pushK t.r b.r = (r1, 0)) {r2 : TipR} {e2 : Nat} (hp2 : pushK r1 b.r = (r2, e2)) {r3 : TipR} {e3 : Nat} (hp3 : pushK t.r { b.r with h := { b.h with bits := bits } } = (r3, e3)) :
   Rz 9 #[tipV t, blkV b, .int .u32 (bits : Int)] w (.bool true) := by
 unfold Rz
 have HT := hD ht
 have HH := hD H
 have KT := hD kt
 have KB := hD kb
 have HKt : Hid (lenH t.b.h) := kt.b.h.len
 have HKb : Hid (lenH b.h) := kb.h.len
 have HFP : Hid (fewP t = true) := k1
 have HFK : Hid (fewK b = true) := k2
 have HAW : Hid (Rt w 10 #[] (.bool true)) := fun u hu => bawake_any H G u (ht.below (EnvX.bel hu))
 have E1 : Hid (EnvX w ((w.alloc (.cells (tipA t) 37)).alloc (.cells (blkA b) 33)) [(w.heap.size + 1, oc (blkA b) 33), (w.heap.size, oc (tipA t) 37)]) := (EnvX.start w).two _ _
 clear ht H G kt kb k1 k2
 have HM1 := hD (fewP.mid HFP.out)
 have HM2 := hD (fewK.mid HFK.out)
 have HP1 := hD hp
 have HP2 := hD hp2
 have HE2 : Hid (e2 ≠ 0) := by
   have h := push_twice (show I64 b.r.h.height from KB.out.h.1) hp
   rw [hp2] at h
   exact h
 obtain ⟨b1, hb1⟩ : ∃ b1 : BlkM, b1 = { b with h := { b.h with bits := bits } } := ⟨_, rfl⟩
 have HP3 : Hid (pushK t.r b1.r = (r3, e3)) := by rw [hb1]; exact hp3
 have HE3 : Hid (bits ≠ b.h.bits → e3 = 5) := fun hne => by
   have h := push_bits hp (k := bits) hne
   have h3 : pushK t.r { b.r with h := { b.r.h with bits := bits } } = (r3, e3) := hp3
   rw [h3] at h
   exact h
 have HB1 : Hid (∀ u, BlkOk u b → BlkOk u b1) := fun u k => by
   rw [hb1]
   exact ⟨⟨k.h.1, k.h.2.1, k.h.2.2.1, k.h.2.2.2.1, k.h.2.2.2.2.1, k.h.2.2.2.2.2.1, hbits, k.h.2.2.2.2.2.2.2⟩, k.l1, k.b1, k.o1, k.m1, k.l2, k.b2, k.m2⟩
 have HMB : Hid (midBlk b1) := by rw [hb1]; exact HM2.out.1
 have HKb1 : Hid (lenH b1.h) := by rw [hb1]; exact HKb.out
 have HPUT : Hid ((blkA b).toList.take 133 ++ [.int .u32 (bits : Int)] ++ (blkA b).toList.drop (133 + 1) = (blkA b1).toList) := by rw [hb1]; exact putHd_bits HKb.out bits _
 clear hp hp2 hp3 hb1 hbits
 unfold tipV blkV
 go_enter func9, ntmps9
 go_upto_region 1 with (fail)
 generalize (w.alloc (.cells (tipA t) 37)).alloc (.cells (blkA b) 33) = W at *
 refine rgQ [0,1] [] E1 rfl fun hw => ?_
 refine qc rfl func10 (fun u hu => HAW.out u (nl hu)) hw ?_
 refine qo rfl hw ?_
 refine enP fun u3 EX2 => ?_
 go_upto_region 2 with (fail)
 refine rgQ [0,1,2] [] EX2 rfl fun hw => ?_
 refine ql rfl (mT mH) HKt.out hw ?_
 refine qc (args := #[tipV t]) (v := .bool true) rfl func11 (fun u hu => by have h1 := fewtip_any t u (KT.out.up (EnvX.bel hu)); rwa [HFP.out] at h1) hw ?_
 refine qo rfl hw ?_
 refine enP fun u6 EX5 => ?_
 go_upto_region 3 with (fail)
 refine rgQ [0,1,2] [] EX5 rfl fun hw => ?_
 refine ql rfl mH HKb.out hw ?_
 refine qc (args := #[blkV b]) (v := .bool true) rfl func12 (fun u hu => by have h1 := fewblk_any b u (KB.out.up (EnvX.bel hu)); rwa [HFK.out] at h1) hw ?_
 refine qo rfl hw ?_
 refine enP fun u9 EX8 => ?_
 go_upto_region 4 with (fail)
 refine rgQ [0,1,2,3,4,5,6,7,8,9] [] EX8 rfl fun hw => ?_
 refine qw 10 hw ?_
 refine enP fun u12 EX11 => ?_
 go_upto_region 6 with (fail)
 refine rgQ [0,1] [2,3,4,5,6,7,8] EX11 rfl fun hw => ?_
 refine ql rfl (mT mH) HKt.out hw ?_
 refine ql rfl mH HKb.out hw ?_
 refine wpG_nil <| (hOp_turn (gd := none) (R := fun x M' => ∃ tq N, x = .tuple #[.agg (tipA tq), .int .i64 ((0 : Nat) : Int)] ∧ M' = N ++ [(w.heap.size + 1, oc (blkA b) 33), (w.heap.size, oc (tipA t) 37)] ∧ KeptB w N (IsTip (r1) tq) ∧ ∃ vq, IsTip (r1) tq vq) rfl rfl rfl rfl (fun u hu => OUpon_call (fid := 17) (xs := #[.tmp 34, .tmp 35]) (args := #[tipV t, blkV b]) rfl func17 rfl rfl u (tip_turn (by have h := HH.out.push t b u (KT.out.up (EnvX.bel hu)) HM1.out.1 (KB.out.up (EnvX.bel hu)) HM2.out.1 (HT.out.below (EnvX.bel hu)); rw [HP1.out] at h; simp only at h; exact h) hu)) ?_)
 rintro _ _ ⟨u6, N6, rfl, rfl, hk6, hv6⟩ he14; intro K' hK'; go_big_quiet_op; go_big_quiet_on
 have HT6 := hD hk6
 have HV6 := hD hv6
 have HK6 : Hid (lenH u6.b.h) := by obtain ⟨v, hv⟩ := HV6.out; exact hv.2.b.h.len
 clear hk6 hv6
 refine phE [3,4,5] [6,7,8] he14 fun hw => ?_
 refine qw 3 hw ?_
 refine wpG_nil <| qn rfl (new_tip _) fun g6 HGg6 he16 => ?_
 change lexH _ _ _ _ _ _ ((g6, oc (tipA noTipM) 37) :: (N6 ++ ((w.heap.size + 1, oc (blkA b) 33) :: ((w.heap.size, oc (tipA t) 37) :: []))))
 refine (sh rfl HGg6 (infoTip _ (tipA_size HK6.out)) (tip_sizes HK6.out) (tipA_one _) ?_)
 intro he17
 refine phE [8] [] he17 fun hw => ?_
 refine qo rfl hw ?_
 refine enP fun u20 EX19 => ?_
 go_upto_region 7 with (fail)
 refine rgQ [0,1] [] EX19 rfl fun hw => ?_
 refine qo rfl hw ?_
 refine qv (v := .bool false) rfl (fun u hu => neErr_op u (decide_eq_false (by omega)) rfl rfl) hw ?_
 refine enP fun u23 EX22 => ?_
 have HR6 : Hid (u6.r = r1) := by obtain ⟨v, hv⟩ := HV6.out; exact hv.1
 have HM6 : Hid (midTip u6) := push_mid KT.out HFP.out HFK.out HP1.out HR6.out
 go_upto_region 9 with (fail)
 refine rgQ [0,1] [2,3,4,5,6,7,8] EX22 rfl fun hw => ?_
 refine ql rfl mH HK6.out hw ?_
 refine ql rfl (mT (mR mH)) HKb.out hw ?_
 refine wpG_nil <| (hOp_turn (gd := none) (R := fun x M' => ∃ tq N, x = .tuple #[.agg (tipA tq), .int .i64 ((e2 : Nat) : Int)] ∧ M' = N ++ ((g6, oc (tipA u6) 37) :: (N6 ++ ((w.heap.size + 1, oc (blkA b) 33) :: ((w.heap.size, oc (tipA t) 37) :: [])))) ∧ KeptB w N (IsTip (r2) tq) ∧ ∃ vq, IsTip (r2) tq vq) rfl rfl rfl rfl (fun u hu => OUpon_call (fid := 17) (xs := #[.tmp 42, .tmp 43]) (args := #[tipV u6, blkV b]) rfl func17 rfl rfl u (tip_turn (by have h := HH.out.push u6 b u (HT6.out u _ hu (fun y MEM => (mT (mL MEM)))).2 HM6.out (KB.out.up (EnvX.bel hu)) HM2.out.1 (HT.out.below (EnvX.bel hu)); rw [HR6.out, HP2.out] at h; simp only at h; exact h) hu)) ?_)
 rintro _ _ ⟨u9, N9, rfl, rfl, hk9, hv9⟩ he25; intro K' hK'; go_big_quiet_op; go_big_quiet_on
 have HT9 := hD hk9
 have HV9 := hD hv9
 have HK9 : Hid (lenH u9.b.h) := by obtain ⟨v, hv⟩ := HV9.out; exact hv.2.b.h.len
 clear hk9 hv9
 refine phE [3,4,5] [6,7,8] he25 fun hw => ?_
 refine qw 3 hw ?_
 refine wpG_nil <| qn rfl (new_tip _) fun g9 HGg9 he27 => ?_
 change lexH _ _ _ _ _ _ ((g9, oc (tipA noTipM) 37) :: (N9 ++ ((g6, oc (tipA u6) 37) :: (N6 ++ ((w.heap.size + 1, oc (blkA b) 33) :: ((w.heap.size, oc (tipA t) 37) :: []))))))
 refine (sh rfl HGg9 (infoTip _ (tipA_size HK9.out)) (tip_sizes HK9.out) (tipA_one _) ?_)
 intro he28
 refine phE [8] [] he28 fun hw => ?_
 refine qo rfl hw ?_
 refine enP fun u31 EX30 => ?_
 go_upto_region 10 with (fail)
 refine rgQ [0] [1,2] EX30 rfl fun hw => ?_
 refine ql rfl (mT (mR (mT (mR mH)))) HKb.out hw ?_
 refine wpG_nil <| qn rfl (new_blk _) fun g10 HGg10 he33 => ?_
 change lexH _ _ _ _ _ _ ((g10, oc (blkA noBlkM) 33) :: ((g9, oc (tipA u9) 37) :: (N9 ++ ((g6, oc (tipA u6) 37) :: (N6 ++ ((w.heap.size + 1, oc (blkA b) 33) :: ((w.heap.size, oc (tipA t) 37) :: [])))))))
 refine (sh rfl HGg10 (infoBlk _ (blkA_size HKb.out)) (blk_sizes HKb.out) (blkA_one _) ?_)
 refine fun _ => enL fun u36 EX35 => ?_
 go_upto_region 11 with (fail)
 refine rgQ [0,1,2] [3] EX35 rfl fun hw => ?_
 refine qw 3 hw ?_
 refine wpG_nil <| (hOp_putAt rfl (g10) (133) (.int .u32 (bits : Int)) rfl rfl HGg10.out.1 33 ((blkA b)) (blkA b1) mH infoU32k (by rw [blkA_size HKb.out]; show 133 + 1 ≤ 137; decide) (by simp [Value.cells]; rfl) HPUT.out ((g10, oc (blkA b1) 33) :: ((g9, oc (tipA u9) 37) :: (N9 ++ ((g6, oc (tipA u6) 37) :: (N6 ++ ((w.heap.size + 1, oc (blkA b) 33) :: ((w.heap.size, oc (tipA t) 37) :: []))))))) (mA ⟨.inl rfl, fun y hy => .inr ⟨mT hy, HGg10.out.2 y hy⟩⟩) ?_)
 refine fun _ => enL fun u40 EX39 => ?_
 go_upto_region 12 with (fail)
 refine rgQ [0,1] [2,3,4,5,6,7,8] EX39 rfl fun hw => ?_
 refine ql rfl (mT (mT (mR (mT (mR (mT mH)))))) HKt.out hw ?_
 refine ql rfl mH HKb1.out hw ?_
 refine wpG_nil <| (hOp_turn (gd := none) (R := fun x M' => ∃ tq N, x = .tuple #[.agg (tipA tq), .int .i64 ((e3 : Nat) : Int)] ∧ M' = N ++ ((g10, oc (blkA b1) 33) :: ((g9, oc (tipA u9) 37) :: (N9 ++ ((g6, oc (tipA u6) 37) :: (N6 ++ ((w.heap.size + 1, oc (blkA b) 33) :: ((w.heap.size, oc (tipA t) 37) :: []))))))) ∧ KeptB w N (IsTip (r3) tq) ∧ ∃ vq, IsTip (r3) tq vq) rfl rfl rfl rfl (fun u hu => OUpon_call (fid := 17) (xs := #[.tmp 52, .tmp 53]) (args := #[tipV t, blkV b1]) rfl func17 rfl rfl u (tip_turn (by have h := HH.out.push t b1 u (KT.out.up (EnvX.bel hu)) HM1.out.1 (HB1.out u (KB.out.up (EnvX.bel hu))) HMB.out (HT.out.below (EnvX.bel hu)); rw [HP3.out] at h; simp only at h; exact h) hu)) ?_)
 rintro _ _ ⟨u12, N12, rfl, rfl, hk12, hv12⟩ he42; intro K' hK'; go_big_quiet_op; go_big_quiet_on
 have HT12 := hD hk12
 have HV12 := hD hv12
 have HK12 : Hid (lenH u12.b.h) := by obtain ⟨v, hv⟩ := HV12.out; exact hv.2.b.h.len
 clear hk12 hv12
 refine phE [3,4,5] [6,7,8] he42 fun hw => ?_
 refine qw 3 hw ?_
 refine wpG_nil <| qn rfl (new_tip _) fun g12 HGg12 he44 => ?_
 change lexH _ _ _ _ _ _ ((g12, oc (tipA noTipM) 37) :: (N12 ++ ((g10, oc (blkA b1) 33) :: ((g9, oc (tipA u9) 37) :: (N9 ++ ((g6, oc (tipA u6) 37) :: (N6 ++ ((w.heap.size + 1, oc (blkA b) 33) :: ((w.heap.size, oc (tipA t) 37) :: [])))))))))
 refine (sh rfl HGg12 (infoTip _ (tipA_size HK12.out)) (tip_sizes HK12.out) (tipA_one _) ?_)
 intro he45
 refine phE [8] [] he45 fun hw => ?_
 refine qo rfl hw ?_
 refine enP fun u48 EX47 => ?_
 by_cases c : bits = b.h.bits
 · have HCB : Hid (decide ((bits : Int) = (b.h.bits : Int)) = true) := decide_eq_true (by omega)
   clear c
   go_upto_region 13 with (fail)
   refine rgQ [0,1,2,3,4,5,6,7,8,9,10,11,12,13] [] EX47 rfl fun hw => ?_
   refine qo rfl hw ?_
   refine qv (v := .bool true) rfl (fun u hu => neErr_op u (decide_eq_true (by have := HE2.out; omega)) rfl rfl) hw ?_
   refine qw 4 hw ?_
   refine qv rfl (fun u hu => load_any_op u (loads_hd HKb.out (box_blk_hd hu (mT (mR (mT (mT (mR (mT (mR mH))))))) HKb.out)).2.2.2.2.2.2.2.1 rfl) hw ?_
   refine qv (v := .bool true) rfl (fun u hu => eqlU32k_op u HCB.out rfl rfl) hw ?_
   refine qw 6 hw ?_
   refine enP fun u51 EX50 => ?_
   have HBE := hD (EnvX.bel EX50.out)
   go_wp2
   go_ret
   exact ⟨rfl, HBE.out⟩
 · have HCB : Hid (decide ((bits : Int) = (b.h.bits : Int)) = false) := decide_eq_false (by omega)
   have HC5 : Hid (decide (((e3 : Nat) : Int) = 5) = true) := decide_eq_true (by have := HE3.out c; omega)
   clear c
   go_upto_region 13 with (fail)
   refine rgQ [0,1,2,3,4,5,6,7,8,9,10,11,12,13] [] EX47 rfl fun hw => ?_
   refine qo rfl hw ?_
   refine qv (v := .bool true) rfl (fun u hu => neErr_op u (decide_eq_true (by have := HE2.out; omega)) rfl rfl) hw ?_
   refine qw 4 hw ?_
   refine qv rfl (fun u hu => load_any_op u (loads_hd HKb.out (box_blk_hd hu (mT (mR (mT (mT (mR (mT (mR mH))))))) HKb.out)).2.2.2.2.2.2.2.1 rfl) hw ?_
   refine qv (v := .bool false) rfl (fun u hu => eqlU32k_op u HCB.out rfl rfl) hw ?_
   refine qw 2 hw ?_
   refine qv rfl (fun u hu => eqErr_op u HC5.out rfl rfl) hw ?_
   refine qw 3 hw ?_
   refine enP fun u51 EX50 => ?_
   have HBE := hD (EnvX.bel EX50.out)
   go_wp2
   go_ret
   exact ⟨rfl, HBE.out⟩
theorem law_btwice (H : BlockC) (G : AwkC) (t : TipM) (b : BlkM) (bits : Nat) (w : World) (kt : TipOk w t) (kb : BlkOk w b) (hbits : bits < 4294967296) (ht : Tables w) :
  Rz 9 #[tipV t, blkV b, .int .u32 (bits : Int)] w (.bool true) := by
 unfold Rz
 cases k1 : fewP t with
 | false => exact law_btwice_fewt H G t b bits w kt kb hbits ht k1 rfl
 | true =>
  cases k2 : fewK b with
  | false => exact law_btwice_fewb H G t b bits w kt kb hbits ht k1 k2
  | true =>
   rcases hp : pushK t.r b.r with ⟨r1, e1⟩
   cases e1 with
   | succ e1 => exact law_btwice_err H G t b bits w kt kb hbits ht k1 k2 hp
   | zero => exact law_btwice_main H G t b bits w kt kb hbits ht k1 k2 hp (r2 := (pushK r1 b.r).1) (e2 := (pushK r1 b.r).2) rfl (r3 := (pushK t.r { b.r with h := { b.h with bits := bits } }).1) (e3 := (pushK t.r { b.r with h := { b.h with bits := bits } }).2) rfl
end Go.Proofs.YtpanpohdnbgdpaaGreatDoor
namespace Go.Proofs.YtpanpohdnbgdpaaGreatDoor.blockTwice
set_option maxRecDepth 8000
open Go.ChangeShapes Go.WideShapes Go.ChangeAt Go.RowKit
theorem contract (H : Type) (enc : TypeId × Value → H) (W : World) (base : Nat) (args : Array Value) (ds gs : List (DataW H)) (before : List MemPlace)
  (hval : ∀ (j : Nat) t v, Tryz.f9.params[j]? = some t → args[j]? = some v → Value.okWide Tryz.prog W .any base t v)
  (hW : DataW.Whole enc Tryz.prog Tryz.f9.params.toList Rows.blockTwiceSpec.vars false W args.toList ds gs before) (hL : laidMetH Tryz.prog Rows.blockTwiceRow.laid W) :
  Calls Tryz.prog 9 args W fun e W' => ∃ v, e = .returned v ∧ Rows.blockTwiceSpec.post enc Tryz.prog Tryz.f9 false true false false W args v W' := by
 have hW' := hW
 obtain ⟨p, q, hA0, hV, rfl, hfz, hnd⟩ := hW
 have hA : DataW.TrodAll enc Tryz.prog W 0 (fun _ => true) true Tryz.f9.params.toList args.toList ds p := hA0
 rw [Tryz.params9] at hA hval
 obtain ⟨v0, vs0, d0, ds0, p0, q0, hargs, rfl, rfl, h0, r0⟩ := trodAll_cons hA
 obtain ⟨v1, vs1, d1, ds1, p1, q1, rfl, rfl, rfl, h1, r1⟩ := trodAll_cons r0
 obtain ⟨v2, vs2, d2, ds2, p2, q2, rfl, rfl, rfl, h2, r2⟩ := trodAll_cons r1
 obtain ⟨rfl, rfl, rfl⟩ := trodAll_nil r2
 obtain rfl : args = #[v0, v1, v2] := by cases args; simp_all
 obtain ⟨rfl, rfl⟩ := trodVars_none hV
 have lt0 : ∀ x ∈ p0, x.block < W.heap.size := by obtain ⟨m, hm⟩ := h0; exact DataW.trod_lt m _ _ _ hm
 obtain ⟨x0, rfl, kx0⟩ := open_tip (hval 0 37 v0 rfl rfl) h0
 have lt1 : ∀ x ∈ p1, x.block < W.heap.size := by obtain ⟨m, hm⟩ := h1; exact DataW.trod_lt m _ _ _ hm
 obtain ⟨x1, rfl, kx1⟩ := open_blk (hval 1 33 v1 rfl rfl) h1
 obtain ⟨x2, rfl, rfl, rfl, wx2⟩ := open_int underlying27 (hval 2 27 v2 rfl rfl) h2
 obtain ⟨y2, rfl⟩ : ∃ n : Nat, x2 = (n : Int) := Int.eq_ofNat_of_zero_le (bounds_u32 wx2).1
 have b2 : y2 < 4294967296 := by have := (bounds_u32 wx2).2; omega
 clear hA0
 refine (law_btwice blockC awkC x0 x1 y2 W kx0 kx1 b2 (tables_of_laid hL)).mono fun e W' ⟨he, bel⟩ => ?_
 subst he
 exact ⟨_, rfl, _, _, _, [], _, [], hW', trodAll_mk1 (shut_bool underlying4 _), (trodAll_cons_mk (Below.trod laidOut (by kernel_rfl) (of_decide_eq_true (by kernel_rfl)) h0 bel lt0) (trodAll_cons_mk (Below.trod laidOut (by kernel_rfl) (of_decide_eq_true (by kernel_rfl)) h1 bel lt1) (trodAll_cons_mk (shut_int underlying27 wx2) trodAll_mk0))), rfl, bel.frame _, fun h => by cases h⟩
def start : Array Value := #[zeroP, zeroB, .int .u32 0]
theorem reads (os : Os) {H : Type} (enc : TypeId × Value → H) : ∃ places, DataW.whole enc Tryz.prog ((laidWorld os).forCall (fun _ _ => 0) ⟨#[], start, []⟩).memory Tryz.f9.params.toList Rows.blockTwiceSpec.vars false start.toList 8 = some ([zeroPD, zeroBD, .lit (.int .u32 0)], [], places) :=
 ⟨[], by kernel_rfl⟩
theorem lifted (os : Os) (started : os.Started) (H : Type) (enc : TypeId × Value → H) (F : Stop.Interp) :
  ReturnsInHanded {} Tryz.checked os 9 .any ((OpenSpec.ofChange Rows.blockTwiceSpec).preRow enc Tryz.prog Tryz.f9 Rows.blockTwiceRow.domain false Rows.blockTwiceRow.laid) (((OpenSpec.ofChange Rows.blockTwiceSpec).at F).post enc Tryz.prog Tryz.f9 false true false false) := by
 obtain ⟨places, hx⟩ := reads os enc
 refine returnsInHanded_of_row (C := Tryz.checked) (s := OpenSpec.ofChange Rows.blockTwiceSpec) own started (by kernel_rfl) func9
  (witness_row_at (enc := enc) (C := Tryz.checked) false (laidWorld os) start rfl (by kernel_rfl) (by kernel_rfl) (by kernel_rfl)
   (OpenSpec.preRow_of_cond 8 hx (by kernel_rfl) (fun k hk => by cases hk) (by kernel_rfl) (laidMet_of_run' 8 (by kernel_rfl) (by kernel_rfl)))) ?_
 intro W base args ds gs before hval hW _ _ _ hL _ _
 exact contract H enc W base args ds gs before hval hW hL
theorem said : Rows.BlockTwiceSaid :=
 OpenClaim.holds_of_cond 9 Tryz.f9 rfl rfl rfl rfl rfl rfl rfl ⟨rfl, rfl, rfl, rfl, rfl⟩ rfl rfl rfl rfl rfl (by kernel_rfl) func9 (by kernel_rfl)
  (of_decide_eq_true (by kernel_rfl)) (by unfold Func.isWrapper; first | (rw [if_pos (by decide +kernel)]; kernel_rfl) | (rw [if_neg (by decide +kernel)]; exact ⟨rfl, rfl⟩))
  (fun os started H enc _ F => by rw [OpenClaim.pre_eq_preRow]; exact lifted os started H enc F)
theorem plain (f : FuncId) (fn : Func) (hf : Tryz.pinned.checked.prog.funcNamed "stepladder/stepladderlaw11.BlockTwice" = some f) (hfn : Tryz.pinned.checked.prog.funcs[f]? = some fn) :
   false = Tryz.pinned.checked.prog.looks [] ∧ ∀ (j : Nat) t, fn.params[j]? = some t → Tryz.pinned.checked.prog.wantsStandIn t = false := by
 obtain rfl : f = 9 := Option.some.inj ((show Tryz.prog.funcNamed "stepladder/stepladderlaw11.BlockTwice" = some 9 by kernel_rfl).symm.trans hf) |>.symm
 obtain rfl : fn = Tryz.f9 := (Option.some.inj (func9.symm.trans hfn)).symm
 refine ⟨by kernel_rfl, fun j t ht => ?_⟩
 rw [Tryz.params9] at ht
 have hm : t = 37 ∨ t = 33 ∨ t = 27 := by simpa using Array.mem_of_getElem? ht
 rcases hm with rfl | rfl | rfl
 · exact (show Tryz.prog.wantsStandIn 37 = false by kernel_rfl)
 · exact (show Tryz.prog.wantsStandIn 33 = false by kernel_rfl)
 · exact (show Tryz.prog.wantsStandIn 27 = false by kernel_rfl)
theorem card : Rows.BlockTwiceCardSaid :=
 Claim7.holds_tied_plain_at .later [] _ _ _ _ said (fun _ h => by cases h) (by kernel_rfl) (fun _ h => by cases h) blockTwice_row_tie rfl ⟨rfl, rfl⟩ (by kernel_rfl) rfl plain (by kernel_rfl)
end Go.Proofs.YtpanpohdnbgdpaaGreatDoor.blockTwice
